/-
  A scope with two labels; the contract of heap.sift.
-/
import Derived.Test.YtcipgjelbnmdiaaHpG
import Derived.ScopeJumps
import Derived.WalkMore
namespace Go.Proofs.Ytcipgjelbnmdiaa.HP
open Go.RowKit Go.Shelf Go.Proofs.Ytcipgjelbnmdiaa.B
attribute [local go_sem] Oper.semAt_some

/-- As Q; by a goto: what holds at that label. -/
def Exit.at_ (J : Nat → Act → World → Prop) (Q : Exit → Act → World → Prop) : Exit → Act → World → Prop
  | .goto l, a, w => J l a w
  | e, a, w => Q e a w
section
variable {P : Program} {a : Act} {w : World} {Q : Exit → Act → World → Prop}
/-- A scope through which the run jumps back to labels, each pass lowering a measure. -/
theorem wp_scope_labels {c : Code} (J : Nat → Act → World → Prop) (μ : Nat → Act → World → Nat) (l₀ : Nat) (h₀ : J l₀ a w) (hc : ∀ x, findLabel c l₀ = some (Code.skip.seq x) → c = (Code.label l₀).seq x)
    (pass' : ∀ l a w, J l a w → ∃ x, findLabel c l = some (Code.skip.seq x) ∧ x.wp P (Exit.at_ (fun l' a' w' => J l' a' w' ∧ μ l' a' w' < μ l a w) Q) a w) : (Code.scope c).wp P Q a w := by
  have pass : ∀ l a w, J l a w → ∃ r, findLabel c l = some r ∧ r.wp P (Exit.at_ (fun l' a' w' => J l' a' w' ∧ μ l' a' w' < μ l a w) Q) a w := fun l a w hJ => by
    obtain ⟨x, h1, h2⟩ := pass' l a w hJ
    exact ⟨_, h1, wp_seq (wp_skip h2)⟩
  have first : c.wp P (Exit.at_ (fun l' a' w' => J l' a' w' ∧ μ l' a' w' < μ l₀ a w) Q) a w := by
    obtain ⟨x, h1, h2⟩ := pass' l₀ a w h₀
    rw [hc x h1]
    exact wp_seq (wp_label h2)
  intro b k cs
  have run : ∀ n l a w, μ l a w = n → J l a w → ∀ r, findLabel c l = some r → ∃ e a' w', Q e a' w' ∧ Arrives P (lone (b.at a (.code r :: .inScope c :: k)) cs w) b k cs e a' w' := by
    intro n
    induction n using Nat.strongRecOn with
    | _ n ih =>
      intro l a w hn hJ r hr
      obtain ⟨r', hr', hp⟩ := pass l a w hJ
      obtain rfl : r' = r := by rw [hr] at hr'; injection hr' with h; exact h.symm
      obtain ⟨e, a₁, w₁, hq, harr⟩ := hp b (.inScope c :: k) cs
      cases e with
      | normal => exact ⟨.normal, a₁, w₁, hq, Steps.trans harr (.one step_inScope)⟩
      | exit id => exact ⟨.exit id, a₁, w₁, hq, fun k' hk => harr k' (by simp [exitTo, hk])⟩
      | goto l' =>
        obtain ⟨hJ', hlt⟩ := hq
        obtain ⟨r₂, hr₂, _⟩ := pass l' a₁ w₁ hJ'
        have hg : gotoIn l' (.inScope c :: k) = some (.code r₂ :: .inScope c :: k) := by simp [gotoIn, hr₂]
        obtain ⟨e₂, a₂, w₂, hq₂, harr₂⟩ := ih _ (by omega) l' a₁ w₁ rfl hJ' r₂ hr₂
        exact ⟨e₂, a₂, w₂, hq₂, .of_steps (harr _ hg) harr₂⟩
      | ret => exact ⟨_, a₁, w₁, hq, harr⟩
      | panic ch => exact ⟨_, a₁, w₁, hq, harr⟩
      | outgrown => exact ⟨_, a₁, w₁, hq, harr⟩
  obtain ⟨e, a₁, w₁, hq, harr⟩ := first b (.inScope c :: k) cs
  cases e with
  | normal => exact ⟨.normal, a₁, w₁, hq, .head step_scope (Steps.trans harr (.one step_inScope))⟩
  | exit id => exact ⟨.exit id, a₁, w₁, hq, fun k' hk => .head step_scope (harr k' (by simp [exitTo, hk]))⟩
  | goto l' =>
    obtain ⟨hJ', _⟩ := hq
    obtain ⟨r₂, hr₂, _⟩ := pass l' a₁ w₁ hJ'
    have hg : gotoIn l' (.inScope c :: k) = some (.code r₂ :: .inScope c :: k) := by simp [gotoIn, hr₂]
    obtain ⟨e₂, a₂, w₂, hq₂, harr₂⟩ := run _ l' a₁ w₁ rfl hJ' r₂ hr₂
    exact ⟨e₂, a₂, w₂, hq₂, .of_steps (.head step_scope (harr _ hg)) harr₂⟩
  | ret => exact ⟨_, a₁, w₁, hq, .of_steps (.one step_scope) harr⟩
  | panic ch => exact ⟨_, a₁, w₁, hq, .of_steps (.one step_scope) harr⟩
  | outgrown => exact ⟨_, a₁, w₁, hq, .of_steps (.one step_scope) harr⟩
end
theorem arr56 {t : Array Value} (h : t.size = 56) : ∃ x0 x1 x2 x3 x4 x5 x6 x7 x8 x9 x10 x11 x12 x13 x14 x15 x16 x17 x18 x19 x20 x21 x22 x23 x24 x25 x26 x27 x28 x29 x30 x31 x32 x33 x34 x35 x36 x37 x38 x39 x40 x41 x42 x43 x44 x45 x46 x47 x48 x49 x50 x51 x52 x53 x54 x55, t = #[x0, x1, x2, x3, x4, x5, x6, x7, x8, x9, x10, x11, x12, x13, x14, x15, x16, x17, x18, x19, x20, x21, x22, x23, x24, x25, x26, x27, x28, x29, x30, x31, x32, x33, x34, x35, x36, x37, x38, x39, x40, x41, x42, x43, x44, x45, x46, x47, x48, x49, x50, x51, x52, x53, x54, x55] := by
  obtain ⟨l⟩ := t
  match l, h with
  | x0 :: x1 :: x2 :: x3 :: x4 :: x5 :: x6 :: x7 :: x8 :: x9 :: x10 :: x11 :: x12 :: x13 :: x14 :: x15 :: x16 :: x17 :: x18 :: x19 :: x20 :: x21 :: x22 :: x23 :: x24 :: x25 :: x26 :: x27 :: x28 :: x29 :: x30 :: x31 :: x32 :: x33 :: x34 :: x35 :: x36 :: x37 :: x38 :: x39 :: x40 :: x41 :: x42 :: x43 :: x44 :: x45 :: x46 :: x47 :: x48 :: x49 :: x50 :: x51 :: x52 :: x53 :: x54 :: x55 :: [], _ => exact ⟨x0, x1, x2, x3, x4, x5, x6, x7, x8, x9, x10, x11, x12, x13, x14, x15, x16, x17, x18, x19, x20, x21, x22, x23, x24, x25, x26, x27, x28, x29, x30, x31, x32, x33, x34, x35, x36, x37, x38, x39, x40, x41, x42, x43, x44, x45, x46, x47, x48, x49, x50, x51, x52, x53, x54, x55, rfl⟩
/-- What holds at a label: the frame, the heap as it stands. -/
structure SJ (w0 : FW) (hb : Nat) (A : HA) (s : Int) (L : List It) (l : Nat) (a : Act) (W : World) (k : Nat) (L' : List It) : Prop where
  z : a.tmps.size = 56
  s0 : a.tmps.getD 0 undef = pt hb
  s1 : a.tmps.getD 1 undef = .int .i64 (k : Int)
  d : a.defers = []
  kl : k < L'.length
  p : L'.Perm L
  h : HW w0 W hb A s L'
  o : (l = 0 ∧ EX s L' k) ∨ (l = 1 ∧ DN s L' k)
theorem best_rest {s : Int} {L : List It} {a m : Nat} : ∀ n : Nat, m ≤ n → L.length ≤ 2 * a + 1 + m → best s L a n = best s L a m
  | 0, h, _ => by obtain rfl : m = 0 := (by omega); rfl
  | n + 1, h, hl => by
    by_cases e : m = n + 1
    · rw [e]
    · show (if 2 * a + 1 + n < L.length ∧ ahB s L[2 * a + 1 + n]! L[best s L a n]! = true then 2 * a + 1 + n else best s L a n) = best s L a m
      rw [if_neg (fun h2 => by have := h2.1; omega)]
      exact best_rest n (by omega) hl
end Go.Proofs.Ytcipgjelbnmdiaa.HP
