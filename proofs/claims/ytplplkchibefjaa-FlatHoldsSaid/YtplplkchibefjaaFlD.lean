/-
  A loop over an iterator that loops over another one itself: its contract, and the law of its caller.
-/
import Derived.RangeFuncNested
import Derived.RangeFuncBound
import Derived.RangeFuncCalls
import Derived.RangeFuncLeaves
namespace Go.Proofs.Ytplplkchibefjaa
open Go.RowKit

/-- What an iterator gives, whatever the caller's word is that abides a turn of blocks that are no cells and lie behind. -/
def SeqOwn {α : Type} (n : Nat) (P : Program) (g : Nat) (lb : Array Value) (encs : α → Array Value) (Kp : World → World → Prop) (L : List α) (w : World) : Prop :=
  ∀ (l : Nat) (J Jx : List α → World → Prop) (W : World), Below w.heap.size w W → OwnFrom W.heap.size J → OwnFrom W.heap.size Jx →
    (∀ pre x W1, J pre W1 → (pre ++ [x]) <+: L → YieldAt Fence.wide (n - 1) P l (encs x) W1 fun e W' =>
      (e = .returned (.bool true) ∧ J (pre ++ [x]) W' ∧ Kp W1 W' ∧ KeepsFrom W.heap.size W1 W') ∨ (e = .returned (.bool false) ∧ Jx (pre ++ [x]) W' ∧ KeepsFrom W.heap.size W1 W')) →
    J [] W →
    CallsIn Fence.wide n P g (#[.func (.yield l) #[] #[]] ++ lb) W fun e W' => (∃ v, e = .returned v) ∧ (J L W' ∨ (∃ pre, pre <+: L ∧ Jx pre W'))

/-- How a round's body may be left. -/
def rfPost {α : Type} (B : Nat) (Kp : World → World → Prop) (I : List α → World → Prop) (Ix : Code → List α → World → Prop) (xs : List α) (W : World) : Exit → Act → World → Prop
  | .normal, _, W' => KeepsFrom B W W' ∧ Kp W W' ∧ I xs W'
  | .ret, _, W' => KeepsFrom B W W' ∧ Ix .ret xs W'
  | _, _, _ => False

/-- The two blocks of a loop's books. -/
structure Bk (w : World) (r : Loop) (W : World) : Prop where
  l : W.heap[w.heap.size + 1]? = some (.loop r)
  d : W.heap[w.heap.size]? = some (.deferred (some []))
theorem Bk.lt {w W : World} {r : Loop} (h : Bk w r W) : w.heap.size + 1 < W.heap.size := (Array.getElem?_eq_some_iff.1 h.l).1
theorem Bk.keeps {w W W' : World} {r : Loop} (h : Bk w r W) (hk : KeepsFrom w.heap.size W W') : Bk w r W' :=
  ⟨hk.same _ _ (by omega) h.l rfl, hk.same _ _ (Nat.le_refl _) h.d rfl⟩
theorem Bk.put {w W : World} {r : Loop} (h : Bk w r W) (r' : Loop) : Bk w r' (W.putObj (w.heap.size + 1) (.loop r')) :=
  ⟨World.putObj_heap_same h.lt, (World.putObj_heap_other (by omega)).trans h.d⟩
theorem Bk.own {β : Type} {w : World} {r : Loop} {B : Nat} (hB : w.heap.size + 2 ≤ B) : OwnFrom B (fun (_ : β) W => Bk w r W) := fun _ X Y row hs hg hr =>
  ⟨(hg.block _ hs.lt (fun e => by have := (hr _ e.symm).1; omega)).trans hs.l, (hg.block _ (by have := hs.lt; omega) (fun e => by have := (hr _ e.symm).1; omega)).trans hs.d⟩

theorem keeps_mono {B B' : Nat} {W W' : World} (h : KeepsFrom B W W') (hB : B ≤ B') : KeepsFrom B' W W' := ⟨h.size, fun k o hk => h.same k o (by omega)⟩
theorem keeps_put {B l : Nat} (W : World) (o : Obj) (h : l < B) : KeepsFrom B W (W.putObj l o) := ⟨by simp, fun k o' hk hko _ => (World.putObj_heap_other (by omega)).trans hko⟩

theorem rf_own {α : Type} {n : Nat} {P : Program} {g : Operand} {ps : Array Tmp} {assign body : Code} {Q : Exit → Act → World → Prop} {a : Act} {w : World} (h1 : 1 ≤ n) {gf : Nat} {lb : Array Value}
    (hg : a.eval g = .func (.func gf) #[] lb) (eg : ∀ args w, (callFunc gf args).run P w = .ok (.enter gf args) w)
    {encs : α → Array Value} {Kp : World → World → Prop} {L : List α} {w0 : World} (hseq : SeqOwn (n - 1) P gf lb encs Kp L w0)
    (hKt : ∀ {A B C : World}, Kp A B → Kp B C → Kp A C) (hKb : ∀ (W : World) (l : Nat) (r r' : Loop), w.heap.size ≤ l → W.heap[l]? = some (.loop r) → Kp W (W.putObj l (.loop r')))
    (hb0 : Below w0.heap.size w0 w) (hps : ∀ x, (encs x).size = ps.size)
    (I : List α → World → Prop) (Ix : Code → List α → World → Prop) (hI : OwnFrom w.heap.size I) (hIx : ∀ c, OwnFrom w.heap.size (Ix c)) (h0 : I [] w) (Ax : α → Act → World → Prop) (hAx : ∀ x a', OwnFrom w.heap.size (fun (_ : Unit) W => Ax x a' W))
    (hassign : ∀ (l : Nat) (pre : List α) (x : α) (W : World) (K : Act → World → Prop), I pre W → (∀ a' W', KeepsFrom w.heap.size W W' → Kp W W' → I pre W' → Ax x a' W' → K a' W') →
      assign.wpIn (Fence.wide.inRound l) (n - 1 - 1) P (Exit.then K (fun _ _ _ => False)) { tmps := (ps.zip (encs x)).foldl (fun t (p, v) => t.setIfInBounds p v) a.tmps, defers := [] } W)
    (hbody : ∀ (l : Nat) (pre : List α) (x : α) (a' : Act) (W : World), I pre W → Ax x a' W → (pre ++ [x]) <+: L → body.wpIn (Fence.wide.inRound l) (n - 1 - 1) P (rfPost w.heap.size Kp I Ix (pre ++ [x]) W) a' W)
    (hdone : ∀ (D : Nat) (W : World), w.heap.size ≤ D → I L W → W.heap[D]? = some (.deferred (some [])) → Q .normal { a with defers := { target := .collected D, args := #[] } :: a.defers } W)
    (hstop : ∀ (D : Nat) (c : Code) (pre : List α) (W : World), w.heap.size ≤ D → pre <+: L → Ix c pre W → W.heap[D]? = some (.deferred (some [])) → c.wpIn Fence.wide n P Q { a with defers := { target := .collected D, args := #[] } :: a.defers } W) :
    (Code.rangeFunc g ps assign body).wpIn Fence.wide n P Q a w := by
  refine wpIn_rangeFunc fun fn hfn => ?_
  obtain ⟨R, hR⟩ : ∃ R : LoopState → Option Code → Loop, R = fun st pe => { state := st, pending := pe, fn, tmps := a.tmps, params := ps, assign, body, defers := w.heap.size } := ⟨_, rfl⟩
  obtain ⟨V, hV⟩ : ∃ V, V = (w.alloc (.deferred (some []))).alloc (.loop (R .ready none)) := ⟨_, rfl⟩
  have hVz : V.heap.size = w.heap.size + 2 := by rw [hV]; simp
  have hB1 : Bk w (R .ready none) V := by
    rw [hV]
    refine ⟨?_, (Below.heap_alloc _ _ _ (by simp)).trans (World.alloc_heap_new w _)⟩
    have := World.alloc_heap_new (w.alloc (.deferred (some []))) (.loop (R .ready none))
    rw [World.size_alloc] at this; exact this
  have hI1 : I [] V := by rw [hV]; exact hI.alloc _ (hI.alloc _ h0)
  have hb1 : Below w0.heap.size w0 V := by
    rw [hV]; exact hb0.trans ((((Below.refl _ w).alloc (Nat.le_refl _) _).alloc (by simp) _).mono hb0.size)
  have fwd : ∀ {β : Type} {J : β → World → Prop}, OwnFrom w.heap.size J → OwnFrom V.heap.size J := fun h s A B row hs hg hr => h s A B row hs hg (fun r e => by have := hr r e; exact ⟨by omega, this.2⟩)
  refine ⟨w.heap.size + 1, [{ target := .collected w.heap.size, args := #[] }], V, { target := .fn (.func gf) lb, args := #[.func (.yield (w.heap.size + 1)) #[] #[]] }, V, gf, #[.func (.yield (w.heap.size + 1)) #[] #[]] ++ lb, V,
    by rw [hV, hR]; exact run_enterLoop_outer _ _ _ _ _, by simp only [resolve, hg]; simp [go_sem], fun _ _ => trivial, by simp [invoke, go_sem, eg], fun _ => h1, ?_⟩
  refine (hseq (w.heap.size + 1) (fun pre W => I pre W ∧ Bk w (R .ready none) W) (fun pre W => ∃ c, Ix c pre W ∧ Bk w (R .done (some c)) W) V hb1
    (OwnFrom.and (fwd hI) (Bk.own (by omega)))
    (fun s A B row hs hg' hr => by
      obtain ⟨c, hc, hk⟩ := hs
      exact ⟨c, fwd (hIx c) s A B row hc hg' hr, Bk.own (β := List α) (B := V.heap.size) (by omega) s A B row hk hg' hr⟩) ?_ ⟨hI1, hB1⟩).mono ?_
  · rintro pre x W ⟨hi, hk⟩ hlen
    have hy := run_yield (P := P) (args := encs x) hk.l (by rw [hR]; exact hps x)
    rw [hR] at hy
    refine ⟨fn, _, assign, body, hy, roundIn_of_wpIn hfn (hassign _ pre x W _ hi ?_)⟩
    clear hy
    intro a' Wa hka hpa hia hax
    have hk := hk.keeps hka
    refine ⟨_, run_beginRound hk.l (by rw [hR]), ?_⟩
    have hk2 := hk.put { R .ready none with state := .busy }
    have hp2 : Kp Wa (Wa.putObj (w.heap.size + 1) (.loop { R .ready none with state := .busy })) := hKb _ _ _ _ (by omega) hk.l
    refine wpIn_mono (hbody _ pre x a' _ (hI.putObj _ hia (by omega) hk.l rfl) ((hAx x a').putObj (s := ()) _ hax (by omega) hk.l rfl) hlen) ?_
    have fin : ∀ (j : Option Code) (U : World), KeepsFrom w.heap.size (Wa.putObj (w.heap.size + 1) (.loop { R .ready none with state := .busy })) U →
        (Instr.endRound (w.heap.size + 1) j).run P U = .ok (.bool j.isNone) (U.putObj (w.heap.size + 1) (.loop (R (if j.isNone then .ready else .done) j))) ∧
        Bk w { R .ready none with state := .busy } U ∧ Bk w (R (if j.isNone then .ready else .done) j) (U.putObj (w.heap.size + 1) (.loop (R (if j.isNone then .ready else .done) j))) := fun j U hu => by
      have h3 := hk2.keeps hu
      have h4 := run_endRound (P := P) j h3.l
      rw [hR] at h4 h3 ⊢
      exact ⟨h4, h3, h3.put _⟩
    have kall : ∀ (U : World) (r : Loop), KeepsFrom w.heap.size (Wa.putObj (w.heap.size + 1) (.loop { R .ready none with state := .busy })) U → KeepsFrom V.heap.size W (U.putObj (w.heap.size + 1) (.loop r)) := fun U r hu =>
      (((keeps_mono hka (by omega)).trans (keeps_put _ _ (by omega))).trans (keeps_mono hu (by omega))).trans (keeps_put _ _ (by omega))
    rintro e a3 U hp
    have leave : ∀ (c : Code), KeepsFrom w.heap.size (Wa.putObj (w.heap.size + 1) (.loop { R .ready none with state := .busy })) U → Ix c (pre ++ [x]) U →
        ∃ c', Ix c' (pre ++ [x]) (U.putObj (w.heap.size + 1) (.loop (R .done (some c)))) ∧ Bk w (R .done (some c')) (U.putObj (w.heap.size + 1) (.loop (R .done (some c)))) := fun c hu hx =>
      ⟨c, (hIx c).putObj _ hx (by omega) (fin (some c) U hu).2.1.l rfl, (fin (some c) U hu).2.2⟩
    cases e with
    | normal =>
      obtain ⟨hu, hpu, hiu⟩ := hp
      obtain ⟨h3, h4, h5⟩ := fin none U hu
      exact ⟨_, _, h3, .inl ⟨rfl, ⟨hI.putObj _ hiu (by omega) h4.l rfl, h5⟩, hKt hpa (hKt (hKt hp2 hpu) (hKb _ _ _ _ (by omega) h4.l)), kall _ _ hu⟩⟩
    | ret =>
      obtain ⟨hu, hxu⟩ := hp
      exact ⟨_, _, (fin (some .ret) U hu).1, .inr ⟨rfl, leave .ret hu hxu, kall _ _ hu⟩⟩
    | exit id => exact hp.elim
    | goto t => exact hp.elim
    | panic ch => exact hp.elim
    | outgrown => exact hp.elim
  · rintro e U ⟨⟨v, rfl⟩, (⟨hi, hk⟩ | ⟨pre, hSp, c, hi, hk⟩)⟩
    · exact ⟨none, _, by have := run_endLoop (P := P) hk.l (by rw [hR]; simp); rw [hR] at this; exact this, hdone _ _ (Nat.le_refl _) (hI.putObj _ hi (by omega) hk.l rfl) ((World.putObj_heap_other (by omega)).trans hk.d)⟩
    · exact ⟨some c, _, by have := run_endLoop (P := P) hk.l (by rw [hR]; simp); rw [hR] at this; exact this, hstop _ c pre _ (Nat.le_refl _) hSp ((hIx c).putObj _ hi (by omega) hk.l rfl) ((World.putObj_heap_other (by omega)).trans hk.d)⟩
end Go.Proofs.Ytplplkchibefjaa
