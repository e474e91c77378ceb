/-
  Lists of lists that a call makes; the net the other way round, step by step. Two regions of Turn that draw their order, in a round. Contract of Turn. Contract of Rings. A region that draws its order, walked once in the order of the text, over a class of worlds: its callees may make memory, so long as they stay in the class. Contracts of the document's Same and All, and of the laws' large. Contract of the laws' large; lists of lists that a call made, read as nets. The laws' awake.
-/
import Derived.Test.YtigicbnkfmbolaaCaf
import Derived.Test.YtigicbnkfmbolaaCaa
import Derived.BigQuiet
import Derived.Deep.Quiet
import Derived.Deep.DeepCutAuto
namespace Go.Proofs.Ytigicbnkfmbolaa.R6
open Go.RowKit Go.Shelf Go.Proofs.Ytigicbnkfmbolaa.B
/-- A row of rows of ints, each in a block of its own. -/
structure ORv (Bo Bi : Nat) (W : World) (v : Value) (vs : List Value) (ls : List (List Int)) : Prop where
  len : vs.length = ls.length
  out : W.ownsRow Bo 33 1 v ls.length vs
  inn : ∀ i : Nat, i < ls.length → W.ownsRow Bi 3 1 vs[i]! ls[i]!.length (ls[i]!.map (Value.int .i64))
  dis : ∀ i j : Nat, i < ls.length → j < ls.length → i ≠ j → ∀ q, vs[i]!.ownBlock = some q → vs[j]!.ownBlock ≠ some q
def ORows (Bo Bi : Nat) (W : World) (v : Value) (ls : List (List Int)) : Prop := ∃ vs, ORv Bo Bi W v vs ls
theorem own_types {W : World} {B B' e e' z z' n n' : Nat} {v v' : Value} {xs xs' : List Value} (h : W.ownsRow B e z v n xs) (h' : W.ownsRow B' e' z' v' n' xs') (hne : e ≠ e') {q : Nat} (hq : v.ownBlock = some q) : v'.ownBlock ≠ some q := by
  intro hq'
  rcases h.2 with ⟨rfl, _⟩ | ⟨g, cap, cur, rfl, _, hg, _⟩
  · cases hq
  · rcases h'.2 with ⟨rfl, _⟩ | ⟨g', cap', cur', rfl, _, hg', _⟩
    · cases hq'
    · simp only [Value.ownBlock, Option.some.injEq] at hq hq'
      subst hq hq'
      rw [hg] at hg'
      simp only [Option.some.injEq, Obj.cells.injEq] at hg'
      exact hne hg'.2.1
theorem ORv.keep {Bo Bi : Nat} {W W' : World} {v : Value} {vs : List Value} {ls : List (List Int)} (h : ORv Bo Bi W v vs ls) (hk : ∀ q, (v.ownBlock = some q ∨ ∃ i, i < ls.length ∧ vs[i]!.ownBlock = some q) → W'.heap[q]? = W.heap[q]?) : ORv Bo Bi W' v vs ls :=
  ⟨h.len, own_keep h.out (fun q hq => hk q (.inl hq)), fun i hi => own_keep (h.inn i hi) (fun q hq => hk q (.inr ⟨i, hi, hq⟩)), h.dis⟩
theorem ORows.keep {Bo Bi : Nat} {W W' : World} {v : Value} {ls : List (List Int)} (h : ORows Bo Bi W v ls) (hk : ∀ q, (v.ownBlock = some q ∨ Bi ≤ q) → q < W.heap.size → W'.heap[q]? = W.heap[q]?) : ORows Bo Bi W' v ls := by
  obtain ⟨vs, h⟩ := h
  exact ⟨vs, h.keep (fun q hq => by
    rcases hq with hq | ⟨i, hi, hq⟩
    · exact hk q (.inl hq) (own_block h.out hq).2
    · exact hk q (.inr (own_block (h.inn i hi) hq).1) (own_block (h.inn i hi) hq).2)⟩
theorem ORows.below {Bo Bi : Nat} {W W' : World} {v : Value} {ls : List (List Int)} (h : ORows Bo Bi W v ls) (hb : Below W.heap.size W W') : ORows Bo Bi W' v ls := h.keep (fun q _ hq => hb.block q hq)
theorem ORows.own {β : Type} (Bo Bi : Nat) (v : Value) (f : β → List (List Int)) : Own (fun s W => ORows Bo Bi W v (f s)) := fun s X Y row hs hg hr => by
  obtain ⟨vs, h⟩ := hs
  exact ⟨vs, h.len, row_own (β := Unit) _ _ _ _ _ _ () X Y row h.out hg hr, fun i hi => row_own (β := Unit) _ _ _ _ _ _ () X Y row (h.inn i hi) hg hr, h.dis⟩
/-- One row has grown, and is stored back. -/
theorem ORv.put {Bo Bi g n c : Nat} {W W1 : World} {vs : List Value} {ls : List (List Int)} {p a : Nat} {v' : Value} (h : ORv Bo Bi W (.slice (some ⟨g, 0, none⟩) n c) vs ls) (hp : p < ls.length) (hn : n = ls.length)
    (ho : W1.ownsRow Bi 3 1 v' (ls[p]!.length + 1) (ls[p]!.map (Value.int .i64) ++ [iv a])) (hg : W.grownBy W1 vs[p]!.ownBlock) (hat : v'.ownBlock = vs[p]!.ownBlock ∨ ∃ q, v'.ownBlock = some q ∧ W.heap.size ≤ q) :
    ORv Bo Bi (W1.setCell ⟨g, p, none⟩ v') (.slice (some ⟨g, 0, none⟩) n c) (vs.set p v') (ls.set p (ls[p]! ++ [(a : Int)])) := by
  subst hn
  have hgl := (own_block h.out (g := g) rfl).2
  have hty : ∀ i, i < ls.length → ∀ q, vs[i]!.ownBlock = some q → q ≠ g := fun i hi q hq e => own_types (h.inn i hi) h.out (by decide) hq (by rw [e]; rfl)
  have hout1 : W1.ownsRow Bo 33 1 (.slice (some ⟨g, 0, none⟩) ls.length c) ls.length vs := own_keep h.out (fun q hq => by
    simp only [Value.ownBlock, Option.some.injEq] at hq
    subst hq
    exact hg.block g hgl (fun e => hty p hp g e.symm rfl))
  have hst := (hout1.stored p v').1
  have hv'g : v'.ownBlock ≠ some g := fun e => own_types hout1 ho (by decide) (q := g) rfl e
  refine ⟨by simp [h.len], by rw [List.length_set]; exact hst, fun i hi => ?_, fun i j hi hj hij q hq => ?_⟩
  · rw [List.length_set] at hi
    by_cases e : i = p
    · subst e
      rw [set_get (by rw [h.len]; exact hi), if_pos rfl, set_get hi, if_pos rfl, List.length_append, List.length_singleton, List.map_append]
      exact own_keep ho (fun q hq => blk_other (fun e => hv'g (by rw [← e]; exact hq)))
    · rw [set_get (by rw [h.len]; exact hp), if_neg e, set_get hp, if_neg e]
      refine own_keep (h.inn i hi) (fun q hq => ?_)
      have hqg := hty i hi q hq
      exact (blk_other hqg).trans (hg.block q (own_block (h.inn i hi) hq).2 (fun e' => h.dis i p hi hp e q hq e'.symm))
  · rw [List.length_set] at hi hj
    have hvl : p < vs.length := by rw [h.len]; exact hp
    rw [set_get hvl] at hq ⊢
    by_cases ei : i = p
    · subst ei
      rw [if_pos rfl] at hq
      rw [if_neg (fun e => hij e.symm)]
      rcases hat with h' | ⟨q', h', hq'⟩
      · exact h.dis i j hi hj hij q (h'.symm.trans hq)
      · intro e
        rw [hq] at h'; injection h' with h'
        have := (own_block (h.inn j hj) e).2; omega
    · rw [if_neg ei] at hq
      by_cases ej : j = p
      · subst ej
        rw [if_pos rfl]
        rcases hat with h' | ⟨q', h', hq'⟩
        · rw [h']; exact h.dis i j hi hj hij q hq
        · intro e
          rw [e] at h'; injection h' with h'
          have := (own_block (h.inn i hi) hq).2; omega
      · rw [if_neg ej]; exact h.dis i j hi hj hij q hq
/-- An empty row is put behind. -/
theorem ORv.push {Bo Bi n : Nat} {W W1 : World} {v v' : Value} {vs : List Value} {ls : List (List Int)} (h : ORv Bo Bi W v vs ls) (hn : n = ls.length) (ho : W1.ownsRow Bo 33 1 v' (n + 1) (vs ++ [.slice none 0 0])) (hg : W.grownBy W1 v.ownBlock) :
    ORv Bo Bi W1 v' (vs ++ [.slice none 0 0]) (ls ++ [[]]) := by
  subst hn
  have hget : ∀ i : Nat, i < ls.length → (vs ++ [Value.slice none 0 0])[i]! = vs[i]! := fun i hi => by
    rw [getElem!_pos _ i (by rw [List.length_append, h.len]; omega), getElem!_pos vs i (by rw [h.len]; exact hi), List.getElem_append_left (by rw [h.len]; exact hi)]
  have hgl : ∀ i : Nat, i < ls.length → (ls ++ [[]])[i]! = ls[i]! := fun i hi => by
    rw [getElem!_pos _ i (by rw [List.length_append]; omega), getElem!_pos ls i hi, List.getElem_append_left hi]
  have hlast : (vs ++ [Value.slice none 0 0])[ls.length]! = .slice none 0 0 := by
    rw [getElem!_pos _ _ (by rw [List.length_append, h.len]; simp), List.getElem_append_right (by rw [h.len]; exact Nat.le_refl _)]; simp
  have hll : (ls ++ [[]])[ls.length]! = [] := by
    rw [getElem!_pos _ _ (by simp), List.getElem_append_right (Nat.le_refl _)]; simp
  refine ⟨by simp [h.len], by rw [List.length_append]; exact ho, fun i hi => ?_, fun i j hi hj hij q hq => ?_⟩
  · rw [List.length_append, List.length_singleton] at hi
    rcases Nat.lt_or_ge i ls.length with hi' | hi'
    · rw [hget i hi', hgl i hi']
      exact own_keep (h.inn i hi') (fun q hq => hg.block q (own_block (h.inn i hi') hq).2 (fun e => own_types (h.inn i hi') h.out (by decide) hq e.symm))
    · obtain rfl : i = ls.length := by omega
      rw [hlast, hll]; exact World.ownsRow_nil _ _ _ _
  · rw [List.length_append, List.length_singleton] at hi hj
    rcases Nat.lt_or_ge i ls.length with hi' | hi'
    · rw [hget i hi'] at hq
      rcases Nat.lt_or_ge j ls.length with hj' | hj'
      · rw [hget j hj']; exact h.dis i j hi' hj' hij q hq
      · obtain rfl : j = ls.length := by omega
        rw [hlast]; simp [Value.ownBlock]
    · obtain rfl : i = ls.length := by omega
      rw [hlast] at hq; cases hq
theorem toL_len (n : NetL) (k i : Nat) : (toL n k i).length ≤ k := by
  unfold toL
  rw [List.length_map]
  have := List.length_filter_le (fun j => decide (i ∈ wy n j)) (List.range k)
  simpa using this
end Go.Proofs.Ytigicbnkfmbolaa.R6

namespace Go.Proofs.Ytigicbnkfmbolaa.R6
open Go.RowKit Go.Shelf Go.Proofs.Ytigicbnkfmbolaa.B
theorem skip_if {c : Bool} {A B : Prop} (h : c = false) (hb : B) : if c = true then A else B := by rw [h]; exact hb
theorem take_if {c : Bool} {A B : Prop} (h : c = true) (ha : A) : if c = true then A else B := by rw [h]; exact ha
end Go.Proofs.Ytigicbnkfmbolaa.R6

namespace Go.Proofs.Ytigicbnkfmbolaa.R6
open Go.RowKit Go.Shelf Go.Proofs.Ytigicbnkfmbolaa.B
attribute [local go_sem] Oper.semAt_some
theorem nils_row (n : Nat) : madeCells #[Value.slice none 0 0] n = (List.replicate n (Value.slice none 0 0)).toArray := by
  refine Array.ext (by simp [size_madeCells]) (fun i h1 h2 => ?_)
  simp [madeCells, Nat.mod_one]
theorem info_row : (Try.prog.info? 33).map (fun i => (i.zero, i.size, i.bytes)) = some (some (.slice none 0 0), 1, 24) := by kernel_rfl
theorem make_rows (n : Nat) (hn : n ≤ 100000) (W : World) : (Instr.makeSlice 38 (.int .i64 n) (.int .i64 n)).run Try.prog W = .ok (.slice (some ⟨W.heap.size, 0, none⟩) n n) (W.alloc (.cells (List.replicate n (Value.slice none 0 0)).toArray 33)) := by
  obtain ⟨i0, hi0, hi1, hi2, hi3⟩ := info_parts info_row
  have h := run_make (P := Try.prog) W 38 33 i0 _ Try.underlying38 hi0 hi1 .i64 .i64 n n (by omega) (by omega) (by rw [hi3]; omega) (by omega)
  rw [hi2, Nat.mul_one, Int.toNat_natCast] at h
  exact h.trans (by rw [← nils_row]; rfl)
theorem orows_nil {W : World} {g Bo Bi N : Nat} (hB : Bo ≤ g) (h : W.heap[g]? = some (.cells (List.replicate N (Value.slice none 0 0)).toArray 33 (0, 0))) (hN : N ≤ 100000) (ls : List (List Int)) (hl : ls.length = N) (hz : ∀ i : Nat, i < N → ls[i]! = []) : ORows Bo Bi W (rowAt g N) ls := by
  subst hl
  have hget : ∀ i : Nat, i < ls.length → (List.replicate ls.length (Value.slice none 0 0))[i]! = .slice none 0 0 := fun i hi => by rw [getElem!_pos _ i (by simpa using hi)]; simp
  refine ⟨List.replicate ls.length (Value.slice none 0 0), by simp, own_all hB h (by simp) hN, fun i hi => ?_, fun i j hi hj _ q hq => ?_⟩
  · rw [hget i hi, hz i hi]; exact World.ownsRow_nil _ _ _ _
  · rw [hget i hi] at hq; cases hq
structure TB (g bx x : Nat) (a : Act) : Prop where
  z : a.tmps.size = 45
  s3 : a.tmps.getD 3 undef = pt (g + 1)
  s4 : a.tmps.getD 4 undef = pt bx
  s5 : a.tmps.getD 5 undef = iv x
  d : a.defers = []
/-- Rows that lie where p says. -/
def ORp (Bo Bi : Nat) (p : Nat → Prop) (W : World) (v : Value) (ls : List (List Int)) : Prop := ∃ vs, ORv Bo Bi W v vs ls ∧ ∀ i : Nat, i < ls.length → ∀ q, vs[i]!.ownBlock = some q → p q
theorem ORp.own {β : Type} (Bo Bi : Nat) (p : Nat → Prop) (v : Value) (f : β → List (List Int)) : Own (fun s W => ORp Bo Bi p W v (f s)) := fun s X Y row hs hg hr => by
  obtain ⟨vs, h, hp⟩ := hs
  exact ⟨vs, ⟨h.len, row_own (β := Unit) _ _ _ _ _ _ () X Y row h.out hg hr, fun i hi => row_own (β := Unit) _ _ _ _ _ _ () X Y row (h.inn i hi) hg hr, h.dis⟩, hp⟩
end Go.Proofs.Ytigicbnkfmbolaa.R6

namespace Go.Proofs.Ytigicbnkfmbolaa.R6
open Go.RowKit Go.Shelf Go.Proofs.Ytigicbnkfmbolaa.B
theorem info_row' : (Try.prog.info? 33).map (fun i => (i.zero, i.size, i.bytes)) = some (some (.slice none 0 0), 1, 24) := by kernel_rfl
end Go.Proofs.Ytigicbnkfmbolaa.R6

namespace Go.Proofs.Ytigicbnkfmbolaa.B
open Go.RowKit Go.Shelf
/-- A world of a class. -/
structure WIn (CC : World → Prop) where
  w : World
  h : CC w
theorem wp_region_class {P : Program} {id : Nat} {Q : Exit → Act → World → Prop} {a : Act} {w : World} {l : List Oper} (CC : World → Prop) (hm : P.follows .mixedOrders = true) (hB : Region.lexB .any l.toArray = true) (h0 : CC w.drew)
    (h : wpQuiet P l.toArray (fun w' => ∃ x : WIn CC, w' = x.w) (fun a' => ∀ w', (∃ x : WIn CC, w' = x.w) → Q .normal a' w') l a) : (Code.region id l.toArray true).wp P Q a w :=
  wp_region_quiet (C := fun w' => ∃ x : WIn CC, w' = x.w) hm hB ⟨⟨_, h0⟩, rfl⟩ (by simpa using h)
/-- A callee's contract that leaves the class as it is. -/
theorem class_call {P : Program} {f : FuncId} {args : Array Value} {CC : World → Prop} {v : Value} (hC : ∀ W W', CC W → Below W.heap.size W W' → CC W')
    (h : ∀ W, CC W → Calls P f args W fun e w' => e = .returned v ∧ Below W.heap.size W w') : ∀ x : WIn CC, Calls P f args x.w fun e w'' => e = .returned v ∧ ∃ y : WIn CC, w'' = y.w :=
  fun x => (h x.w x.h).mono fun _ _ ⟨he, hb⟩ => ⟨he, ⟨_, hC _ _ x.h hb⟩, rfl⟩
end Go.Proofs.Ytigicbnkfmbolaa.B

namespace Go.Proofs.Ytigicbnkfmbolaa.R6
open Go.RowKit Go.Shelf Go.Proofs.Ytigicbnkfmbolaa.B
def eqI (x y : Int) : Bool := x == y
theorem eqI_iff {a b : List Int} : eqLB eqI a b = true ↔ a = b := by
  rw [eqLB_iff]
  constructor
  · rintro ⟨h1, h2⟩
    refine List.ext_getElem h1 (fun i hi hj => ?_)
    have := h2 i hi
    rw [getElem!_pos a i hi, getElem!_pos b i hj] at this
    simpa [eqI] using this
  · rintro rfl
    exact ⟨rfl, fun j _ => by simp [eqI]⟩
theorem eqI_is (a b : List Int) : eqLB eqI a b = decide (a = b) := by rw [Bool.eq_iff_iff, eqI_iff, decide_eq_true_eq]
set_option maxHeartbeats 2000000 in
theorem rsame_any (A B : Option Addr) (c d : Nat) (a b : List Int) (w : World) (hr1 : Row w A (a.map (Value.int .i64))) (hr2 : Row w B (b.map (Value.int .i64))) (hla : a.length ≤ 1000000) :
    Calls Try.prog 7 #[.slice A a.length c, .slice B b.length d] w fun e w' => e = .returned (.bool (decide (a = b))) ∧ Below w.heap.size w w' := by
  rw [← eqI_is]
  by_cases hle : a.length = b.length
  · have HLE := Lib.hid hle
    have hle1 : ((a.length : Int) != (b.length : Int)) = false := by rw [bne_eq_false_iff_eq]; omega
    have hle2 : a.length ≤ b.length := by omega
    have hle3 : b.length ≤ a.length := by omega
    clear hle
    go_enter Try.func7, Try.ntmps7
    go_wp2_with fail
    go_loopw [5] (fun i wr => ∃ k : Nat, k ≤ a.length ∧ i = .int .i64 k ∧ Hid (∀ j, j < k → eqI a[j]! b[j]! = true) ∧ Below w.heap.size w wr) (fun i _ => a.length - (intOf i).toNat)
    case atStart => exact ⟨0, Nat.zero_le _, rfl, fun j hj => absurd hj (Nat.not_lt_zero _), Below.refl _ _⟩
    case round =>
      obtain ⟨k, hk, rfl, HR, hB⟩ := hrel
      by_cases hlt1 : k < a.length
      · have hlt2 : k < b.length := by omega
        obtain ⟨b1, off1, rfl, hb1, hc1⟩ := row_at hr1 hlt1
        obtain ⟨b2, off2, rfl, hb2, hc2⟩ := row_at hr2 hlt2
        rw [← hB.cell (p := ⟨b1, _, none⟩) hb1] at hc1
        rw [← hB.cell (p := ⟨b2, _, none⟩) hb2] at hc2
        have hk0 : (0 : Int) ≤ (k : Int) := Int.natCast_nonneg _
        have hk1 : (k : Int) < (a.length : Int) := by omega
        have hk2 : (k : Int) < (b.length : Int) := by omega
        cases hn : eqI a[k]! b[k]! with
        | true =>
          have HR' := Lib.hid (all_more HR.out hn)
          have hq : (a[k]! != b[k]!) = false := by rw [eqI] at hn; rw [bne, hn]; rfl
          clear hn HR
          generalize a[k]! = x at *
          generalize b[k]! = y at *
          go_wp2_with fail
          go_quiet (fail)
          go_wp2_with fail
          go_roundw
          case rel => exact ⟨k + 1, hlt1, by go_num, HR', below_draws hB _⟩
          case measure => simp [intOf]; omega
        | false =>
          have HF := Lib.hid (eqLB_bad hlt1 hn)
          have hq : (a[k]! != b[k]!) = true := by rw [eqI] at hn; rw [bne, hn]; rfl
          clear hn HR
          generalize a[k]! = x at *
          generalize b[k]! = y at *
          go_wp2_with fail
          go_quiet (fail)
          go_wp2_with fail
          go_ret
          exact ⟨ret_bool HF.out.symm, below_draws hB _⟩
      · obtain rfl : k = a.length := by omega
        have HF := Lib.hid (eqLB_all HLE.out HR.out)
        clear HR
        go_wp2_with fail
        go_ret
        exact ⟨ret_bool HF.out.symm, hB⟩
  · have HF := Lib.hid (eqLB_len (p := eqI) hle)
    have hle1 : ((a.length : Int) != (b.length : Int)) = true := by rw [bne_iff_ne]; omega
    clear hle
    go_enter Try.func7, Try.ntmps7
    go_wp2_with fail
    go_ret
    exact ⟨ret_bool HF.out.symm, Below.refl _ _⟩
/-- Are two points' ways the same? -/
def eqR (r s : RW) : Bool := decide (r.l = s.l)
theorem eqR_is (a b : List RW) : eqLB eqR a b = decide (netOf a = netOf b) := by
  rw [Bool.eq_iff_iff, eqLB_iff, decide_eq_true_eq]
  constructor
  · rintro ⟨h1, h2⟩
    refine list_ext (by rw [net_len, net_len]; exact h1) (fun i hi => ?_)
    rw [net_len] at hi
    rw [net_at, net_at]
    exact of_decide_eq_true (h2 i hi)
  · intro h
    have hl : a.length = b.length := by rw [← net_len a, ← net_len b, h]
    exact ⟨hl, fun j _ => decide_eq_true (by rw [← net_at, ← net_at, h])⟩
set_option maxHeartbeats 2000000 in
theorem rall_any (A B : Option Addr) (c d : Nat) (a b : List RW) (w : World) (hr1 : NetIn w A a) (hr2 : NetIn w B b) (hla : a.length ≤ 1000000) (hlr : ∀ r ∈ a, r.l.length ≤ 1000000) :
    Calls Try.prog 12 #[.slice A a.length c, .slice B b.length d] w fun e w' => e = .returned (.bool (decide (netOf a = netOf b))) ∧ Below w.heap.size w w' := by
  rw [← eqR_is]
  by_cases hle : a.length = b.length
  · have HLE := Lib.hid hle
    have hle1 : ((a.length : Int) != (b.length : Int)) = false := by rw [bne_eq_false_iff_eq]; omega
    have hle2 : a.length ≤ b.length := by omega
    have hle3 : b.length ≤ a.length := by omega
    clear hle
    have HN1 := Lib.hid hr1
    have HN2 := Lib.hid hr2
    have HLR := Lib.hid hlr
    clear hr1 hr2 hlr
    go_enter Try.func12, Try.ntmps12
    go_wp2_with fail
    go_loopw [5] (fun i wr => ∃ k : Nat, k ≤ a.length ∧ i = .int .i64 k ∧ Hid (∀ j, j < k → eqR a[j]! b[j]! = true) ∧ Below w.heap.size w wr) (fun i _ => a.length - (intOf i).toNat)
    case atStart => exact ⟨0, Nat.zero_le _, rfl, fun j hj => absurd hj (Nat.not_lt_zero _), Below.refl _ _⟩
    case round =>
      obtain ⟨k, hk, rfl, HR, hB⟩ := hrel
      by_cases hlt1 : k < a.length
      · have hlt2 : k < b.length := by omega
        obtain ⟨b1, off1, rfl, hb1, hc1⟩ := HN1.out.at_ hlt1
        obtain ⟨b2, off2, rfl, hb2, hc2⟩ := HN2.out.at_ hlt2
        have hk0 : (0 : Int) ≤ (k : Int) := Int.natCast_nonneg _
        have hk1 : (k : Int) < (a.length : Int) := by omega
        have hk2 : (k : Int) < (b.length : Int) := by omega
        have hm1 := Go.Proofs.Ytigicbnkfmbolaa.B.mem_at hlt1
        have hm2 := Go.Proofs.Ytigicbnkfmbolaa.B.mem_at hlt2
        have hd : Below w.heap.size w wr.drew := below_draws hB 1
        have EN := class_call (CC := Below w.heap.size w) (fun _ _ h hb => h.trans (hb.mono h.size)) (fun W h => rsame_any a[k]!.a b[k]!.a a[k]!.c b[k]!.c a[k]!.l b[k]!.l W ((HN1.out.row _ hm1).below (Nat.le_refl _) h) ((HN2.out.row _ hm2).below (Nat.le_refl _) h) (HLR.out _ hm1))
        have f1 : ∀ x : WIn (Below w.heap.size w), x.w.cell? ⟨b1, off1 + k, none⟩ = _ := fun x => (x.h.cell (p := ⟨b1, _, none⟩) hb1).trans hc1
        have f2 : ∀ x : WIn (Below w.heap.size w), x.w.cell? ⟨b2, off2 + k, none⟩ = _ := fun x => (x.h.cell (p := ⟨b2, _, none⟩) hb2).trans hc2
        haveI : Nonempty (WIn (Below w.heap.size w)) := ⟨⟨_, hd⟩⟩
        clear hm1 hm2 hc1 hc2
        cases hn : eqR a[k]! b[k]! with
        | true =>
          have HR' := Lib.hid (all_more HR.out hn)
          have hq : decide (a[k]!.l = b[k]!.l) = true := hn
          rw [hq] at EN
          clear hn HR hq
          generalize a[k]! = x at *
          generalize b[k]! = y at *
          go_wp2_with fail
          go_cut [26] (fun s wc => s = .bool false ∧ Below w.heap.size w wc)
          case first =>
            refine wp_region_class (Below w.heap.size w) (by kernel_rfl) (by kernel_rfl) hd ?_
            repeat (go_big_quiet_step (exact EN _))
            refine wpQuiet_nil ?_
            rintro _ ⟨⟨wq, hwq⟩, rfl⟩
            go_wp2_with fail
            go_meet
            exact ⟨rfl, hwq⟩
          case rest =>
            obtain ⟨rfl, hwq⟩ := hcut
            go_wp2_with fail
            go_roundw
            case rel => exact ⟨k + 1, hlt1, by go_num, HR', hwq⟩
            case measure => simp [intOf]; omega
        | false =>
          have HF := Lib.hid (eqLB_bad hlt1 hn)
          have hq : decide (a[k]!.l = b[k]!.l) = false := hn
          rw [hq] at EN
          clear hn HR hq
          generalize a[k]! = x at *
          generalize b[k]! = y at *
          go_wp2_with fail
          go_cut [26] (fun s wc => s = .bool true ∧ Below w.heap.size w wc)
          case first =>
            refine wp_region_class (Below w.heap.size w) (by kernel_rfl) (by kernel_rfl) hd ?_
            repeat (go_big_quiet_step (exact EN _))
            refine wpQuiet_nil ?_
            rintro _ ⟨⟨wq, hwq⟩, rfl⟩
            go_wp2_with fail
            go_meet
            exact ⟨rfl, hwq⟩
          case rest =>
            obtain ⟨rfl, hwq⟩ := hcut
            go_wp2_with fail
            go_ret
            exact ⟨ret_bool HF.out.symm, hwq⟩
      · obtain rfl : k = a.length := by omega
        have HF := Lib.hid (eqLB_all HLE.out HR.out)
        clear HR
        go_wp2_with fail
        go_ret
        exact ⟨ret_bool HF.out.symm, hB⟩
  · have HF := Lib.hid (eqLB_len (p := eqR) hle)
    have hle1 : ((a.length : Int) != (b.length : Int)) = true := by rw [bne_iff_ne]; omega
    clear hle
    go_enter Try.func12, Try.ntmps12
    go_wp2_with fail
    go_ret
    exact ⟨ret_bool HF.out.symm, Below.refl _ _⟩
end Go.Proofs.Ytigicbnkfmbolaa.R6

namespace Go.Proofs.Ytigicbnkfmbolaa.R6
open Go.RowKit Go.Shelf Go.Proofs.Ytigicbnkfmbolaa.B
theorem own_to_row {w : World} {B e n c : Nat} {A : Option Addr} {xs : List Value} (h : w.ownsRow B e 1 (.slice A n c) n xs) : Row w A xs := Row.of_own h
/-- A list of lists that a call made is a net in memory. -/
theorem ORv.net {Bo Bi : Nat} {W : World} {v : Value} {vs : List Value} {ls : List (List Int)} (h : ORv Bo Bi W v vs ls) : ∃ A c rs, v = .slice A rs.length c ∧ netOf rs = ls ∧ NetIn W A rs := by
  obtain ⟨A, c, rfl⟩ := own_slice h.out
  have hex : ∀ i : Nat, ∃ r : RW, i < ls.length → vs[i]! = .slice r.a r.l.length r.c ∧ r.l = ls[i]! := fun i => by
    by_cases hi : i < ls.length
    · obtain ⟨a, c', e⟩ := own_slice (h.inn i hi)
      exact ⟨⟨a, ls[i]!, c'⟩, fun _ => ⟨e, rfl⟩⟩
    · exact ⟨default, fun h => absurd h hi⟩
  obtain ⟨f, hf⟩ := Classical.axiomOfChoice hex
  have hlen : ((List.range ls.length).map f).length = ls.length := by simp
  have hat : ∀ i : Nat, i < ls.length → ((List.range ls.length).map f)[i]! = f i := fun i hi => by rw [getElem!_pos _ i (by rw [hlen]; exact hi)]; simp
  have hfl : ((List.range ls.length).map f).flatMap rwC = vs := by
    have h1 : ((List.range ls.length).map f).flatMap rwC = ((List.range ls.length).map f).map (fun r => Value.slice r.a r.l.length r.c) := by
      generalize (List.range ls.length).map f = l
      induction l with
      | nil => rfl
      | cons r t ih => rw [List.flatMap_cons, List.map_cons, ih]; rfl
    rw [h1]
    refine list_ext (by rw [List.length_map, hlen, h.len]) (fun i hi => ?_)
    rw [List.length_map, hlen] at hi
    rw [getElem!_pos _ i (by rw [List.length_map, hlen]; exact hi)]
    simp only [List.getElem_map, List.getElem_range]
    exact (hf i hi).1.symm
  refine ⟨A, c, (List.range ls.length).map f, by rw [hlen], ?_, ?_, ?_⟩
  · refine list_ext (by rw [net_len, hlen]) (fun i hi => ?_)
    rw [net_len, hlen] at hi
    rw [net_at, hat i hi, (hf i hi).2]
  · rw [hfl]; exact own_to_row h.out
  · intro r hr
    obtain ⟨i, hi, rfl⟩ := List.mem_map.1 hr
    have hi := List.mem_range.1 hi
    have ho := h.inn i hi
    rw [(hf i hi).1, ← (hf i hi).2] at ho
    exact own_to_row ho
end Go.Proofs.Ytigicbnkfmbolaa.R6

namespace Go.Proofs.Ytigicbnkfmbolaa.R6
open Go.RowKit Go.Shelf Go.Proofs.Ytigicbnkfmbolaa.B
def N1 : NetL := [[1], [2], [1]]
def N2 : NetL := [[], [0], [0]]
def N3 : NetL := [[1], [2], []]
/-- A net lies there. -/
def Nt (W : World) (A : Option Addr) (n : NetL) : Prop := ∃ rs, netOf rs = n ∧ NetIn W A rs
theorem Nt.below {W W' : World} {A : Option Addr} {n : NetL} (h : Nt W A n) (hb : Below W.heap.size W W') : Nt W' A n := by
  obtain ⟨rs, h1, h2⟩ := h
  exact ⟨rs, h1, h2.below (Nat.le_refl _) hb⟩
theorem row_blk {W : World} {b : Nat} {xs : List Value} {T : TypeId} (h : W.heap[b]? = some (.cells xs.toArray T (0, 0))) : Row W (some ⟨b, 0, none⟩) xs := by
  intro _
  refine ⟨b, 0, rfl, (Array.getElem?_eq_some_iff.1 h).1, fun j v hj => ?_⟩
  exact cell_blk h (by simpa using hj)
theorem nt_rows {n : NetL} {rs : List RW} (h : netOf rs = n) {m : Nat} (hb : ∀ l ∈ n, l.length ≤ m) : ∀ r ∈ rs, r.l.length ≤ m := fun r hr => hb r.l (h ▸ List.mem_map.2 ⟨r, hr, rfl⟩)
theorem nt_len {n : NetL} {rs : List RW} (h : netOf rs = n) : rs.length = n.length := by rw [← h, net_len]
theorem row_call {W W' : World} {A : Option Addr} {xs : List Value} (h : Row W A xs) (hb : Below W.heap.size W W') : Row W' A xs := h.below (Nat.le_refl _) hb
section
variable {W : World} {A B : Option Addr} {c d : Nat}
theorem nt_all {n : NetL} (h : Nt W A n) (h' : Nt W B n) (hl : n.length ≤ 1000000) (hr : ∀ l ∈ n, l.length ≤ 1000000) : Calls Try.prog 12 #[.slice A n.length c, .slice B n.length d] W fun e w' => e = .returned (.bool true) ∧ Below W.heap.size W w' := by
  obtain ⟨rs, h1, h2⟩ := h
  obtain ⟨ss, g1, g2⟩ := h'
  have := rall_any A B c d rs ss W h2 g2 (by rw [nt_len h1]; exact hl) (nt_rows h1 hr)
  rw [nt_len h1, nt_len g1, h1, g1, decide_eq_true rfl] at this
  exact this
theorem row_same {l : List Int} (h : Row W A (l.map (Value.int .i64))) (h' : Row W B (l.map (Value.int .i64))) (hl : l.length ≤ 1000000) : Calls Try.prog 7 #[.slice A l.length c, .slice B l.length d] W fun e w' => e = .returned (.bool true) ∧ Below W.heap.size W w' := by
  have := rsame_any A B c d l l W h h' hl
  rw [decide_eq_true rfl] at this
  exact this
end
end Go.Proofs.Ytigicbnkfmbolaa.R6
