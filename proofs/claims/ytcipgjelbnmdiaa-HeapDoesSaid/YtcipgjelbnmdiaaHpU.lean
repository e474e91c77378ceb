/-
  Package heap in words of the list of what waits, the first one first.
-/
import Derived.Test.YtcipgjelbnmdiaaHpT
namespace Go.Proofs.Ytcipgjelbnmdiaa.HP
open Go.RowKit Go.Shelf Go.Proofs.Ytcipgjelbnmdiaa.B

/-- All numbers differ. -/
def DI (S : List It) : Prop := S.Pairwise (fun x y => x.id ≠ y.id)
theorem DI.perm {L S : List It} (h : DI L) (hp : L.Perm S) : DI S := (hp.pairwise_iff (fun h => Ne.symm h)).1 h
theorem DI.eq {S : List It} (h : DI S) {x y : It} (hx : x ∈ S) (hy : y ∈ S) (e : x.id = y.id) : x = y := by
  unfold DI at h
  induction S with
  | nil => cases hx
  | cons z S ih =>
    rw [List.pairwise_cons] at h
    rcases List.mem_cons.1 hx with hx1 | hx1
    · rcases List.mem_cons.1 hy with hy1 | hy1
      · rw [hx1, hy1]
      · rw [hx1] at e; exact absurd e (h.1 y hy1)
    · rcases List.mem_cons.1 hy with hy1 | hy1
      · rw [hy1] at e; exact absurd e.symm (h.1 x hx1)
      · exact ih h.2 hx1 hy1
theorem PlOk.di {L : List It} {f : Int → Option Nat} (h : PlOk L f) : DI L := by
  unfold DI
  rw [List.pairwise_iff_getElem]
  intro i j hi hj hij e
  have := h.one (p := i) (q := j) hi hj (by rw [getElem!_pos L i hi, getElem!_pos L j hj]; exact e)
  omega
theorem has_mem {L : List It} {i : Int} : hasB L i = true ↔ ∃ x ∈ L, x.id = i := by
  unfold hasB
  rw [List.any_eq_true]
  constructor
  · rintro ⟨x, hx, hi⟩; exact ⟨x, hx, by simpa using hi⟩
  · rintro ⟨x, hx, hi⟩; exact ⟨x, hx, by simpa using hi⟩
theorem has_perm {L S : List It} (h : L.Perm S) (i : Int) : hasB L i = hasB S i := by
  rw [Bool.eq_iff_iff, has_mem, has_mem]
  constructor
  · rintro ⟨x, hx, hi⟩; exact ⟨x, h.mem_iff.1 hx, hi⟩
  · rintro ⟨x, hx, hi⟩; exact ⟨x, h.mem_iff.2 hx, hi⟩
theorem getI_mem {S : List It} (h : DI S) {x : It} (hx : x ∈ S) : getI S x.id = x := by
  unfold getI
  cases hf : S.find? (fun y => y.id == x.id) with
  | none =>
    rw [List.find?_eq_none] at hf
    exact absurd (hf x hx) (by simp)
  | some y =>
    have h1 := List.find?_some hf
    have h2 := List.mem_of_find?_eq_some hf
    exact h.eq h2 hx (by simpa using h1)
theorem getI_perm {L S : List It} (h : DI S) (hp : L.Perm S) {i : Int} (hh : hasB S i = true) : getI L i = getI S i := by
  obtain ⟨x, hx, rfl⟩ := has_mem.1 hh
  rw [getI_mem h hx, getI_mem (h.perm hp.symm) (hp.mem_iff.2 hx)]
/-- All but the one of a number. -/
def rmI (S : List It) (i : Int) : List It := S.filter (fun y => y.id != i)
theorem rmI_perm {S : List It} (h : DI S) {x : It} (hx : x ∈ S) : (x :: rmI S x.id).Perm S := by
  unfold DI at h
  induction S with
  | nil => cases hx
  | cons z S ih =>
    rw [List.pairwise_cons] at h
    unfold rmI
    rcases List.mem_cons.1 hx with rfl | hx
    · rw [List.filter_cons, if_neg (by simp)]
      have : S.filter (fun y => y.id != x.id) = S := List.filter_eq_self.2 (fun y hy => by
        have := h.1 y hy
        rw [bne_iff_ne]; exact Ne.symm this)
      rw [this]
    · have hne := h.1 x hx
      rw [List.filter_cons, if_pos (by rw [bne_iff_ne]; exact hne)]
      exact (List.Perm.swap _ _ _).trans ((ih h.2 hx).cons z)
/-- One comes to its place. -/
def insI (s : Int) (S : List It) (x : It) : List It := S.takeWhile (fun y => ahB s y x) ++ x :: S.dropWhile (fun y => ahB s y x)
theorem insI_perm (s : Int) (S : List It) (x : It) : (insI s S x).Perm (S ++ [x]) := by
  unfold insI
  have h1 : (S.takeWhile (fun y => ahB s y x) ++ x :: S.dropWhile (fun y => ahB s y x)).Perm (x :: (S.takeWhile (fun y => ahB s y x) ++ S.dropWhile (fun y => ahB s y x))) := List.perm_middle
  rw [List.takeWhile_append_dropWhile] at h1
  exact h1.trans (List.perm_append_comm (l₁ := [x]))
theorem insI_so {s : Int} {S : List It} (h : S.Pairwise (le s)) (x : It) : (insI s S x).Pairwise (le s) := by
  induction S with
  | nil => exact List.pairwise_singleton _ _
  | cons z S ih =>
    rw [List.pairwise_cons] at h
    by_cases hz : ahB s z x = true
    · have e : insI s (z :: S) x = z :: insI s S x := by
        unfold insI
        simp [hz]
      rw [e, List.pairwise_cons]
      refine ⟨fun y hy => ?_, ih h.2⟩
      have hy' := (insI_perm s S x).mem_iff.1 hy
      rw [List.mem_append, List.mem_singleton] at hy'
      rcases hy' with hy' | rfl
      · exact h.1 y hy'
      · exact le_of_ah hz
    · have e : insI s (z :: S) x = x :: z :: S := by
        unfold insI
        simp [hz]
      have hxz : le s x z := by
        unfold le
        cases hq : ahB s z x with
        | false => rfl
        | true => exact absurd hq hz
      rw [e, List.pairwise_cons]
      refine ⟨fun y hy => ?_, List.pairwise_cons.2 h⟩
      rcases List.mem_cons.1 hy with rfl | hy
      · exact hxz
      · exact le_trans hxz (h.1 y hy)
/-- In order there is one way alone. -/
theorem so_one {s : Int} : ∀ {S T : List It}, S.Perm T → S.Pairwise (le s) → T.Pairwise (le s) → DI S → S = T
  | [], T, hp, _, _, _ => (List.Perm.nil_eq hp)
  | x :: S, [], hp, _, _, _ => absurd hp.length_eq (by simp)
  | x :: S, y :: T, hp, hs, ht, hd => by
    rw [List.pairwise_cons] at hs ht
    have hx : x ∈ y :: T := hp.mem_iff.1 (List.mem_cons_self ..)
    have hy : y ∈ x :: S := hp.mem_iff.2 (List.mem_cons_self ..)
    have hxy : x = y := by
      rcases List.mem_cons.1 hx with h1 | h1
      · exact h1
      · rcases List.mem_cons.1 hy with h2 | h2
        · exact h2.symm
        · exact hd.eq (List.mem_cons_self ..) hy (le_anti (hs.1 y h2) (ht.1 x h1))
    subst hxy
    rw [so_one (List.Perm.cons_inv hp) hs.2 ht.2 (List.pairwise_cons.1 hd).2]
theorem so_pair {s : Int} {S : List It} (h : So s S 0 S.length) : S.Pairwise (le s) := by
  rw [List.pairwise_iff_getElem]
  intro i j hi hj hij
  have := h i j (Nat.zero_le _) hij hj
  rw [getElem!_pos S i hi, getElem!_pos S j hj] at this
  exact this
/-- A heap, in words of what waits in it. -/
structure HS (F : FW) (w : World) (hb : Nat) (s : Int) (S : List It) : Prop where
  ex : ∃ A L, L.Perm S ∧ HO s L ∧ HW F w hb A s L
  so : S.Pairwise (le s)
theorem HS.di {F : FW} {w : World} {hb : Nat} {s : Int} {S : List It} (h : HS F w hb s S) : DI S := by
  obtain ⟨A, L, hp, _, hw⟩ := h.ex
  obtain ⟨f, _, hf⟩ := hw.h.map
  exact hf.di.perm hp
theorem HS.ok {F : FW} {w : World} {hb : Nat} {s : Int} {S : List It} (h : HS F w hb s S) : ∀ x ∈ S, OkI x := by
  obtain ⟨A, L, hp, _, hw⟩ := h.ex
  exact fun x hx => hw.h.ok x (hp.mem_iff.2 hx)
theorem HS.few {F : FW} {w : World} {hb : Nat} {s : Int} {S : List It} (h : HS F w hb s S) : S.length ≤ 1000 := by
  obtain ⟨A, L, hp, _, hw⟩ := h.ex
  rw [← hp.length_eq]; exact hw.h.few
theorem HS.lt {F : FW} {w : World} {hb : Nat} {s : Int} {S : List It} (h : HS F w hb s S) : hb < w.heap.size := by
  obtain ⟨A, L, hp, _, hw⟩ := h.ex
  exact hw.h.lt
theorem HS.k {F : FW} {w : World} {hb : Nat} {s : Int} {S : List It} (h : HS F w hb s S) : Kept F w := by
  obtain ⟨A, L, hp, _, hw⟩ := h.ex
  exact hw.b
theorem HS.call {F : FW} {w w' : World} {hb : Nat} {s : Int} {S : List It} (h : HS F w hb s S) (hb' : Below w.heap.size w w') : HS F w' hb s S := by
  obtain ⟨A, L, hp, ho, hw⟩ := h.ex
  exact ⟨⟨A, L, hp, ho, hw.call hb'⟩, h.so⟩
theorem HS.inner {F : FW} {w W : World} {hb : Nat} {s : Int} {S : List It} (h : HS F w hb s S) (hW : Below w.heap.size w W) : HS (F.inn w W) W hb s S := by
  obtain ⟨A, L, hp, ho, hw⟩ := h.ex
  exact ⟨⟨A, L, hp, ho, hw.inner hW⟩, h.so⟩
theorem HS.outer {F : FW} {w W W' : World} {hb hb' : Nat} {s s' : Int} {S S' : List It} (h : HS F w hb s S) (hW : Below w.heap.size w W) (h' : HS (F.inn w W) W' hb' s' S') : HS F W' hb' s' S' := by
  obtain ⟨A, L, hp, ho, hw⟩ := h.ex
  obtain ⟨A', L', hp', ho', hw'⟩ := h'.ex
  exact ⟨⟨A', L', hp', ho', hw.outer hW hw'⟩, h'.so⟩
theorem head_eq {s : Int} {L S : List It} (hp : L.Perm S) (ho : HO s L) (hs : S.Pairwise (le s)) (hd : DI S) : L[0]! = S[0]! := by
  cases S with
  | nil => rw [List.Perm.eq_nil hp]
  | cons x S =>
    have hl : 0 < L.length := by rw [hp.length_eq]; simp
    have h1 : x ∈ L := hp.mem_iff.2 (List.mem_cons_self ..)
    have h2 : L[0]! ∈ x :: S := hp.mem_iff.1 (mem_at hl)
    obtain ⟨j, hj, rfl⟩ := List.getElem_of_mem h1
    have h3 := head_le ho j j (Nat.le_refl _) hj
    rw [getElem!_pos L j hj] at h3
    rw [List.pairwise_cons] at hs
    show L[0]! = L[j]
    rcases List.mem_cons.1 h2 with h4 | h4
    · exact h4
    · exact hd.eq h2 (List.mem_cons_self ..) (le_anti h3 (hs.1 _ h4))
theorem getI_has {S : List It} {i : Int} (h : hasB S i = false) : getI S i = ⟨0, 0, 0⟩ := by
  unfold getI
  have : S.find? (fun x => x.id == i) = none := by
    rw [List.find?_eq_none]
    intro x hx hc
    have : hasB S i = true := has_mem.2 ⟨x, hx, by simpa using hc⟩
    rw [h] at this; cases this
  rw [this]; rfl
theorem putE_perm {L S : List It} (hp : L.Perm S) (x : It) : putE L x = putE S x := by
  unfold putE
  rw [has_perm hp, hp.length_eq]
theorem hs_put (F : FW) (w : World) (hb : Nat) (s : Int) (S : List It) (h : HS F w hb s S) (x : It) (hid : (Lit.int .i64 x.id).wf = true) :
    Calls Try.prog 12 #[pt hb, itV x] w fun e w' => e = .returned (.int .i64 (putE S x)) ∧ HS F w' hb s (if putE S x = 0 then insI s S x else S) := by
  obtain ⟨A, L, hp, ho, hw⟩ := h.ex
  refine (put_any F w hb A s L hw ho x hid).mono ?_
  rintro e w' ⟨rfl, A', L', q1, q2, q3⟩
  rw [putE_perm hp] at q1
  refine ⟨by rw [putE_perm hp], ⟨A', L', ?_, q2, q3⟩, ?_⟩
  · by_cases h0 : putE S x = 0
    · rw [if_pos h0] at q1 ⊢
      exact q1.trans ((hp.append_right [x]).trans (insI_perm s S x).symm)
    · rw [if_neg h0] at q1 ⊢
      exact q1.trans hp
  · split
    · exact insI_so h.so x
    · exact h.so
theorem hs_peek (F : FW) (w : World) (hb : Nat) (s : Int) (S : List It) (h : HS F w hb s S) :
    Calls Try.prog 18 #[pt hb] w fun e w' => e = .returned (.tuple #[itV S[0]!, .bool (decide (0 < S.length))]) ∧ Below w.heap.size w w' := by
  obtain ⟨A, L, hp, ho, hw⟩ := h.ex
  refine (peek_any w hb A s L hw.h).mono ?_
  rintro e w' ⟨rfl, hb'⟩
  exact ⟨by rw [head_eq hp ho h.so h.di, hp.length_eq], hb'⟩
theorem hs_pop (F : FW) (w : World) (hb : Nat) (s : Int) (S : List It) (h : HS F w hb s S) :
    Calls Try.prog 14 #[pt hb] w fun e w' => e = .returned (.tuple #[itV S[0]!, .bool (decide (0 < S.length))]) ∧ HS F w' hb s S.tail := by
  obtain ⟨A, L, hp, ho, hw⟩ := h.ex
  refine (pop_any F w hb A s L hw ho).mono ?_
  rintro e w' ⟨rfl, L', q1, q2, q3⟩
  have he := head_eq hp ho h.so h.di
  refine ⟨by rw [he, hp.length_eq], ⟨A, L', ?_, q2, q3⟩, ?_⟩
  · cases S with
    | nil =>
      rw [q1.1 (List.Perm.eq_nil hp)]; exact List.Perm.refl _
    | cons x S =>
      have h1 := q1.2 (by rw [hp.length_eq]; simp)
      rw [he] at h1
      exact List.Perm.cons_inv (h1.trans hp)
  · cases S with
    | nil => exact List.Pairwise.nil
    | cons x S => exact (List.pairwise_cons.1 h.so).2
theorem hs_remove (F : FW) (w : World) (hb : Nat) (s : Int) (S : List It) (h : HS F w hb s S) (i : Int) (hi : (Lit.int .i64 i).wf = true) :
    Calls Try.prog 17 #[pt hb, .int .i64 i] w fun e w' => e = .returned (.tuple #[itV (getI S i), .bool (hasB S i)]) ∧ HS F w' hb s (rmI S i) := by
  obtain ⟨A, L, hp, ho, hw⟩ := h.ex
  refine (remove_any F w hb A s L hw ho i hi).mono ?_
  rintro e w' ⟨rfl, L', q1, q2, q3⟩
  have hh := has_perm hp i
  refine ⟨?_, ⟨A, L', ?_, q2, q3⟩, h.so.sublist List.filter_sublist⟩
  · rw [hh]
    unfold remI
    rw [hh]
    cases hb' : hasB S i with
    | true => rw [if_pos rfl, getI_perm h.di hp hb']
    | false => rw [if_neg (by decide), getI_has hb']
  · cases hb' : hasB S i with
    | true =>
      have h1 := q1.1 (by rw [hh]; exact hb')
      rw [getI_perm h.di hp hb'] at h1
      obtain ⟨x, hx, rfl⟩ := has_mem.1 hb'
      rw [getI_mem h.di hx] at h1
      exact List.Perm.cons_inv ((h1.trans hp).trans (rmI_perm h.di hx).symm)
    | false =>
      have h1 := q1.2 (by rw [hh]; exact hb')
      rw [h1]
      have : rmI S i = S := List.filter_eq_self.2 (fun y hy => by
        rw [bne_iff_ne]
        intro e
        have : hasB S i = true := has_mem.2 ⟨y, hy, e⟩
        rw [hb'] at this; cases this)
      rw [this]; exact hp
theorem hs_has (F : FW) (w : World) (hb : Nat) (s : Int) (S : List It) (h : HS F w hb s S) (i : Int) (hi : (Lit.int .i64 i).wf = true) :
    Calls Try.prog 22 #[pt hb, .int .i64 i] w fun e w' => e = .returned (.bool (hasB S i)) ∧ w = w' := by
  obtain ⟨A, L, hp, ho, hw⟩ := h.ex
  rw [← has_perm hp]
  exact has_any w hb A s L hw.h i hi
theorem hs_len (F : FW) (w : World) (hb : Nat) (s : Int) (S : List It) (h : HS F w hb s S) :
    Calls Try.prog 21 #[pt hb] w fun e w' => e = .returned (.int .i64 (S.length : Int)) ∧ w = w' := by
  obtain ⟨A, L, hp, ho, hw⟩ := h.ex
  rw [← hp.length_eq]
  exact len_any w hb A s L hw.h
theorem hs_weight (F : FW) (w : World) (hb : Nat) (s : Int) (S : List It) (h : HS F w hb s S) (i now : Int) (hi : (Lit.int .i64 i).wf = true) :
    Calls Try.prog 19 #[pt hb, .int .i64 i, .int .i64 now] w fun e w' => e = .returned (.tuple #[.int .i64 (if hasB S i = true then wgt s (getI S i) now else 0), .bool (hasB S i)]) ∧ Below w.heap.size w w' := by
  obtain ⟨A, L, hp, ho, hw⟩ := h.ex
  refine (weightOf_any w hb A s L hw.h i now hi).mono ?_
  rintro e w' ⟨rfl, hb'⟩
  rw [has_perm hp]
  refine ⟨?_, hb'⟩
  cases hh : hasB S i with
  | true => rw [if_pos rfl, if_pos rfl, getI_perm h.di hp hh]
  | false => rfl
/-- A row of one's own that holds these. -/
def RowS (w : World) (S : List It) (e : Ending) (w' : World) : Prop :=
  ∃ (a : Option Addr) (c : Nat), e = .returned (.slice a S.length c) ∧ w'.ownsRow w.heap.size 32 3 (.slice a S.length c) S.length (S.flatMap itC) ∧ Below w.heap.size w w'
theorem hs_list (F : FW) (w : World) (hb : Nat) (s : Int) (S : List It) (h : HS F w hb s S) (hp : ∀ L : List It, L.length = S.length → (∀ x ∈ L, OkI x) → ∀ w0 g c, w0.cell? ⟨hb, 0, none⟩ = some (.int .i64 s) → hb ≠ g → 1 ≤ s → s ≤ 1048576 → PdqC w0 g c hb s L) :
    Calls Try.prog 24 #[pt hb] w (RowS w S) := by
  obtain ⟨A, L, hpm, ho, hw⟩ := h.ex
  refine (list_any w hb A s L hw.h (fun w0 g c h1 h2 => hp L hpm.length_eq hw.h.ok w0 g c h1 h2 hw.h.step.1 hw.h.step.2)).mono ?_
  rintro e w' ⟨a, c, T, rfl, q1, q2, q3, q4⟩
  obtain rfl : T = S := so_one (q1.trans hpm) (so_pair q2) h.so (h.di.perm (q1.trans hpm).symm)
  exact ⟨a, c, rfl, q3, q4⟩
/-- For few things no more is wanted of the sort. -/
theorem pdq_few {hb : Nat} {s : Int} {L : List It} (hl : L.length ≤ 12) (hok : ∀ x ∈ L, OkI x) : ∀ w0 g c, w0.cell? ⟨hb, 0, none⟩ = some (.int .i64 s) → hb ≠ g → 1 ≤ s → s ≤ 1048576 → PdqC w0 g c hb s L :=
  fun w0 g c hc hne h1 h2 => pdq_small w0 g c hb s L hok hc hne h1 h2 hl
end Go.Proofs.Ytcipgjelbnmdiaa.HP
