/-
  Ties as they lie in memory; a map of slices; contracts of flat.timeless, stricter, pairs.
-/
import Derived.Test.YtplplkchibefjaaGrY
import Derived.Test.YtplplkchibefjaaFlT
import Derived.WalkLawsBesides
namespace Go.Proofs.Ytplplkchibefjaa
open Go.RowKit Go.Shelf

abbrev TKey := Int × Int × Int
def tkey (t : Ti) : TKey := (t.kind, t.fr, t.to)
structure OkT (t : Ti) : Prop where
  kind : (Lit.int .i64 t.kind).wf = true
  fr : (Lit.int .i64 t.fr).wf = true
  to : (Lit.int .i64 t.to).wf = true
/-- A tie's key. -/
noncomputable def tlit (k : TKey) : Lit := (DataW.agg [.lit (.int .i64 k.1), .lit (.int .i64 k.2.1), .lit (.int .i64 k.2.2), .lit (.int .i64 0)] : DataW Unit).asKey
theorem rowT : (49 : TypeId) < Try.prog.types.size := of_decide_eq_true (by kernel_rfl)
theorem deepT3 : Try.prog.keyTypeAt 3 49 = true := by kernel_rfl
theorem deepT : Try.prog.keyTypeAt (Try.prog.types.size + 1) 49 = true := by kernel_rfl
theorem cellsT : Try.prog.cellsOf 49 = 4 := by kernel_rfl
theorem formT (a b c d : Value) : (Value.agg #[a, b, c, d]).formed Try.prog 49 = true := by simp [Value.formed, Try.underlying49, cellsT]
theorem lawT : Maps.Keyed Try.prog 49 := Maps.Keyed.of_law (lawR_of progLaid rowT deepT3 Try.underlying49)
theorem keyT {t : Ti} (h : OkT t) : keyOf Try.prog 49 (.agg #[.int .i64 t.kind, .int .i64 t.fr, .int .i64 t.to, .int .i64 0]) = some (tlit (tkey t)) := by
  have hi : ∀ n : Int, (Lit.int .i64 n).wf = true → ∃ m, DataW.trod (fun _ => ()) Try.prog (default : World) 0 (fun _ => false) true m 3 [.int .i64 n] = some (.lit (.int .i64 n), []) := fun n hn => by
    obtain ⟨m, hm⟩ := Go.ChangeShapes.shut_int (enc := fun _ => ()) (P := Try.prog) (w := default) (base := 0) (spare := fun _ => false) (held := true) Try.underlying3 hn
    exact ⟨m, hm⟩
  have := Joins.shut_agg4 (enc := fun _ => ()) (P := Try.prog) (w := default) (base := 0) (spare := fun _ => false) (held := true) Try.underlying49 (by kernel_rfl) cellsT (hi _ h.kind) (hi _ h.fr) (hi _ h.to) (hi 0 (by decide))
  exact keyOf_of deepT Try.underlying49 (formT _ _ _ _) this

/-! ### a map whose elements are told as they are -/
def Rv (v : Value) : Option (DataW Value × List MemPlace) := some (.held v, [])
/-- Block b is a map that holds, at each key, what f says; z where there is none. -/
def MapV (w : World) (P : Program) (k : TypeId) (z : Value) (b n : Nat) (f : Lit → Option Value) : Prop :=
  ∃ D : DataW Value, w.ownsMap P k Rv b n D ∧ ∀ l, WideAt.IsKeyLit l → Maps.has D l = (f l).isSome ∧ D.atKey l (.held z) = .held ((f l).getD z)
theorem MapV.lt {w : World} {P : Program} {k : TypeId} {z : Value} {b n : Nat} {f : Lit → Option Value} (h : MapV w P k z b n f) : b < w.heap.size := by obtain ⟨D, h, _⟩ := h; exact h.lt
theorem MapV.made (w : World) (P : Program) (k : TypeId) (z : Value) : MapV (w.alloc (.map #[] 0)) P k z w.heap.size 0 (fun _ => none) :=
  ⟨.map [], World.ownsMap_made w P k _, fun _ _ => ⟨rfl, rfl⟩⟩
theorem MapV.block {w w' : World} {P : Program} {k : TypeId} {z : Value} {b n : Nat} {f : Lit → Option Value} (h : MapV w P k z b n f) (hb : w'.heap[b]? = w.heap[b]?) : MapV w' P k z b n f := by
  obtain ⟨D, ⟨es, clock, h1, h2⟩, h3⟩ := h
  exact ⟨D, ⟨es, clock, hb.trans h1, h2⟩, h3⟩
theorem MapV.below {w w' : World} {P : Program} {k : TypeId} {z : Value} {b n : Nat} {f : Lit → Option Value} (h : MapV w P k z b n f) {B : Nat} (hB : w.heap.size ≤ B) (hb : Below B w w') : MapV w' P k z b n f :=
  h.block (hb.block b (by have := h.lt; omega))
theorem MapV.mono {w : World} {P : Program} {k : TypeId} {z : Value} {b n m : Nat} {f : Lit → Option Value} (h : MapV w P k z b n f) (hn : n ≤ m) : MapV w P k z b m f := by
  obtain ⟨D, h, hf⟩ := h; exact ⟨D, h.mono hn, hf⟩
theorem MapV.look {w : World} {P : Program} {k e t : TypeId} {z : Value} {b n : Nat} {f : Lit → Option Value} (h : MapV w P k z b n f) (K : Maps.Keyed P k) (ht : P.underlying t = some (.map k e)) (hz : (zeroValue e).run P w = .ok z w)
    {key : Value} {kl : Lit} (hkey : keyOf P k key = some kl) : (Instr.lookup t (.map (some b)) key false).run P w = .ok ((f kl).getD z) w := by
  obtain ⟨D, h, hf⟩ := h
  obtain ⟨v, ps, h1, h2⟩ := h.lookup K ht hz (zd := .held z) (zp := []) rfl hkey
  rw [(hf kl (K.key hkey)).2] at h2
  simp only [Rv, Option.some.injEq, Prod.mk.injEq, DataW.held.injEq] at h2
  rw [← h2.1]; exact h1
theorem MapV.look_ok {w : World} {P : Program} {k e t : TypeId} {z : Value} {b n : Nat} {f : Lit → Option Value} (h : MapV w P k z b n f) (K : Maps.Keyed P k) (ht : P.underlying t = some (.map k e)) (hz : (zeroValue e).run P w = .ok z w)
    {key : Value} {kl : Lit} (hkey : keyOf P k key = some kl) : (Instr.lookup t (.map (some b)) key true).run P w = .ok (.tuple #[(f kl).getD z, .bool (f kl).isSome]) w := by
  obtain ⟨D, h, hf⟩ := h
  obtain ⟨v, ps, h1, h2⟩ := h.look_ok K ht hz (zd := .held z) (zp := []) rfl hkey
  rw [(hf kl (K.key hkey)).1] at h1
  rw [(hf kl (K.key hkey)).2] at h2
  simp only [Rv, Option.some.injEq, Prod.mk.injEq, DataW.held.injEq] at h2
  rw [← h2.1]; exact h1
theorem MapV.update {w : World} {P : Program} {k e t : TypeId} {z : Value} {b n : Nat} {f : Lit → Option Value} (h : MapV w P k z b n f) (K : Maps.Keyed P k) (ht : P.underlying t = some (.map k e)) (hn : n < maxLen) {key : Value} {kl : Lit} (hkey : keyOf P k key = some kl) (v : Value) :
    ∃ w1, (Instr.mapUpdate t (.map (some b)) key v).run P w = .ok () w1 ∧ MapV w1 P k z b (n + 1) (fun l => if l = kl then some v else f l) ∧ w.grownBy w1 (some b) := by
  obtain ⟨D, h, hf⟩ := h
  obtain ⟨w1, h1, h2, h3⟩ := h.update K ht hn hkey (val := v) (d := .held v) (ps := []) rfl
  refine ⟨w1, h1, ⟨_, h2, fun l hl => ?_⟩, h3⟩
  have hk := K.key hkey
  by_cases e : l = kl
  · subst e
    simp only [if_true]
    exact ⟨by rw [Maps.has_put_same h.isMap hk]; rfl, by rw [Maps.atKey_put_same h.isMap hk]; rfl⟩
  · simp only [if_neg e]
    exact ⟨by rw [Maps.has_put_other e]; exact (hf l hl).1, by rw [Maps.atKey_put_other e]; exact (hf l hl).2⟩

/-! ### small functions -/
set_option maxHeartbeats 400000 in
theorem ttimeless_any (t : Ti) (w : World) : Calls Try.prog 50 #[.agg #[.int .i64 t.kind, .int .i64 t.fr, .int .i64 t.to, .int .i64 t.time]] w fun e w' => e = .returned (.agg #[.int .i64 t.kind, .int .i64 t.fr, .int .i64 t.to, .int .i64 0]) ∧ w' = (w.alloc (.cells #[.int .i64 t.kind, .int .i64 t.fr, .int .i64 t.to, .int .i64 0] 49)).alloc (.cells #[.int .i64 t.kind, .int .i64 t.fr, .int .i64 t.to, .int .i64 0] 49) := by
  go_enter Try.func50, Try.ntmps50
  go_wp2
  exact bodyPost_ret (v := .agg #[.int .i64 t.kind, .int .i64 t.fr, .int .i64 t.to, .int .i64 0]) (by simp [results, Try.results50, go_sem]) rfl ⟨rfl, rfl⟩
/-- Which of two times is the stricter. -/
def strI (k a b : Int) : Int := if k = 1 then max a b else if k = 2 then min a b else a
set_option maxHeartbeats 400000 in
theorem stricter_any (k a b : Int) (w : World) : Calls Try.prog 51 #[.int .i64 k, .int .i64 a, .int .i64 b] w fun e w' => e = .returned (.int .i64 (strI k a b)) ∧ w = w' := by
  by_cases h1 : k = 1
  · have e : strI k a b = max a b := if_pos h1
    rw [e]
    clear e
    subst h1
    go_enter Try.func51, Try.ntmps51
    go_wp2
    all_goals
      go_ret
      exact ⟨ret_i64 (by omega), rfl⟩
  · by_cases h2 : k = 2
    · have e : strI k a b = min a b := by rw [strI, if_neg h1, if_pos h2]
      rw [e]
      clear e h1
      subst h2
      go_enter Try.func51, Try.ntmps51
      go_wp2
      all_goals
        go_ret
        exact ⟨ret_i64 (by omega), rfl⟩
    · have e : strI k a b = a := by rw [strI, if_neg h1, if_neg h2]
      rw [e]
      have t1 : (k == 1) = false := beq_eq_false_iff_ne.2 h1
      have t2 : (k == 2) = false := beq_eq_false_iff_ne.2 h2
      clear e h1 h2
      go_enter Try.func51, Try.ntmps51
      go_wp2
      go_ret
      exact ⟨rfl, rfl⟩
theorem pairs_any (A B : Option Addr) (la lb ca cb : Nat) (w : World) : Calls Try.prog 84 #[.slice A la ca, .slice B lb cb] w fun e w' => e = .returned (.func (.func 115) #[] #[.pointer (some ⟨w.heap.size, 0, none⟩), .pointer (some ⟨w.heap.size + 1, 0, none⟩)]) ∧ w' = (w.alloc (.cells #[.slice A la ca] 54)).alloc (.cells #[.slice B lb cb] 54) := by
  go_enter Try.func84, Try.ntmps84
  go_wp2
  go_ret
  exact ⟨rfl, rfl⟩
end Go.Proofs.Ytplplkchibefjaa
