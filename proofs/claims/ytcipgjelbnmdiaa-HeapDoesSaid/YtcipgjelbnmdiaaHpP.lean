/-
  Contracts of slices.Values, slices.AppendSeq, slices.Collect at items.
-/
import Derived.Test.YtcipgjelbnmdiaaHpO
import Derived.RangeFuncNested
import Derived.RangeFuncBound
import Derived.RangeFuncCalls
import Derived.RangeFuncLeaves
import Derived.Shelf.AbstractIn
import Derived.Shelf.RegionOpen
import Derived.OwnWalkIn
import Derived.TacticsInMore
import Derived.LoopNIn
import Derived.LoopIn
import Derived.Maps.AppendAt
import Derived.Maps.OwnIn
import Derived.Deep.Quiet
namespace Go.Proofs.Ytcipgjelbnmdiaa.HP
open Go.RowKit Go.Shelf Go.Proofs.Ytcipgjelbnmdiaa.B
attribute [local go_sem] Oper.semAt_some

theorem abides_alloc {β : Type} {B : Nat} {J : β → World → Prop} (h : AbidesFrom B J) {s : β} {W : World} (o : Obj) (hs : J s W) : J s (W.alloc o) :=
  h s W (W.alloc o) none hs ⟨rfl, rfl, rfl, by simp, fun k hk _ => Below.heap_alloc _ _ _ hk⟩ (fun r e => by cases e)
/-- Where it lies, the row is read as it lies. -/
def RowAt (n₀ : Nat) (W : World) (A : Option Addr) (L : List It) : Prop :=
  ∀ i, i < L.length → ∃ b off, A = some ⟨b, off, none⟩ ∧ b < n₀ ∧ W.cell? ⟨b, off + i * 3, none⟩ = some (.int .i64 L[i]!.id) ∧ W.cell? ⟨b, off + i * 3 + 1, none⟩ = some (.int .i64 L[i]!.base) ∧ W.cell? ⟨b, off + i * 3 + 2, none⟩ = some (.int .i64 L[i]!.since)
theorem RowAt.keep {n₀ : Nat} {W W' : World} {A : Option Addr} {L : List It} (h : RowAt n₀ W A L) (hb : Below n₀ W W') : RowAt n₀ W' A L := fun i hi => by
  obtain ⟨b, off, hA, hbn, h0, h1, h2⟩ := h i hi
  exact ⟨b, off, hA, hbn, (hb.cell (p := ⟨b, off + i * 3, none⟩) hbn).trans h0, (hb.cell (p := ⟨b, off + i * 3 + 1, none⟩) hbn).trans h1, (hb.cell (p := ⟨b, off + i * 3 + 2, none⟩) hbn).trans h2⟩
set_option maxHeartbeats 400000 in
theorem values_mk (n : Nat) (A : Option Addr) (len c : Nat) (w : World) :
    CallsIn Fence.wide n Try.prog 49 #[.slice A len c] w fun e w' => e = .returned (.func (.func 63) #[] #[pt w.heap.size]) ∧ w' = w.alloc (.cells #[.slice A len c] 51) := by
  refine callsIn_of_wp Try.func49 rfl trivial ?_ rfl
  simp only [Try.ntmps49, List.size_toArray, List.length_cons, List.length_nil, Nat.reduceAdd, Nat.reduceSub, Array.replicate_succ, Array.replicate_zero, List.push_toArray, List.append_toArray, List.nil_append, List.cons_append]
  gi_wp2
  go_ret
  exact ⟨rfl, rfl⟩
set_option maxRecDepth 100000 in
set_option maxHeartbeats 2000000 in
theorem values_seq (W0 : World) (A : Option Addr) (c : Nat) (L : List It) (hl : L.length ≤ 1000000) (n : Nat) (h2 : 2 ≤ n) (bx n₀ : Nat) (hx : W0.heap[bx]? = some (.cells #[.slice A L.length c] 51 (0, 0))) (hbx : bx < n₀) (hn₀ : n₀ ≤ W0.heap.size) (hR : RowAt n₀ W0 A L) :
    SeqStopsK Fence.wide n Try.prog 63 #[pt bx] (fun x : It => #[itV x]) (Below n₀) (fun ys => ys = L) (fun _ => True) L.length W0 := by
  intro l J Jx W hW hJA _ hY hJ0
  show CallsIn Fence.wide n Try.prog 63 #[.func (.yield l) #[] #[], pt bx] W _
  have hBW : Below n₀ W0 W := hW.mono hn₀
  have cb : W.cell? ⟨bx, 0, none⟩ = some (.slice A L.length c) := cell_blk (i := 0) ((hBW.block bx hbx).trans hx) rfl
  have HR := Lib.hid (hR.keep hBW)
  have HY := Lib.hid hY
  have HJA := Lib.hid hJA
  have hnW : n₀ ≤ W.heap.size := Nat.le_trans hn₀ hW.size
  have hbl : bx < W.heap.size := by omega
  have h1n : 1 ≤ n := by omega
  have h2n : 1 ≤ n - 1 := by omega
  clear hx hR hY hJA hBW hW
  refine callsIn_of_wp Try.func63 rfl trivial ?_ rfl
  simp only [Try.ntmps63, List.size_toArray, List.length_cons, List.length_nil, Nat.reduceAdd, Nat.reduceSub, Array.replicate_succ, Array.replicate_zero, List.push_toArray, List.append_toArray, List.nil_append, List.cons_append]
  gi_wp2
  clear cb
  gi_loopw [7] (fun i wr => ∃ (k : Nat), k ≤ L.length ∧ i = .int .i64 k ∧ J (L.take k) wr ∧ Hid (Below n₀ W wr) ∧ n₀ ≤ wr.heap.size) (fun i _ => L.length - (intOf i).toNat)
  case atStart => exact ⟨0, Nat.zero_le _, rfl, by rw [List.take_zero]; exact hJ0, Lib.hid (Below.refl _ _), hnW⟩
  case round =>
    clear hJ0
    obtain ⟨k, hk, rfl, hJ, HK, hnr⟩ := hrel
    by_cases hlt : k < L.length
    · have hltz : (k : Int) < (L.length : Int) := by omega
      have hk0 : (0 : Int) ≤ (k : Int) := Int.natCast_nonneg _
      obtain ⟨b, off, hA, hbn, x0, x1, x2⟩ := HR.out.keep HK.out k hlt
      obtain rfl : A = some ⟨b, off, none⟩ := hA
      have hbl2 : b < wr.heap.size := by omega
      have hJa := abides_alloc HJA.out (.cells #[.int .i64 L[k]!.id, .int .i64 L[k]!.base, .int .i64 L[k]!.since] 32) hJ
      obtain ⟨fn, tmps, assign, body, hy, hR⟩ := HY.out _ L[k]! _ hJa (by rw [List.length_take]; omega)
      have HTK : Hid (L.take (k + 1) = L.take k ++ [L[k]!]) := Lib.hid (take_next hlt)
      have HK1 : Hid (Below n₀ W (wr.alloc (.cells #[.int .i64 L[k]!.id, .int .i64 L[k]!.base, .int .i64 L[k]!.since] 32))) := Lib.hid (HK.out.alloc hnr _)
      generalize L[k]! = x at *
      obtain ⟨xi, xb, xs⟩ := x
      simp only at x0 x1 x2 hJa HK1
      dsimp only [itV] at hy
      clear hJa hJ
      gi_wp2
      refine hR.mono ?_
      rintro e W3 (⟨rfl, hJ3, hk3⟩ | ⟨rfl, hJx3⟩)
      · have HJ3 := Lib.hid hJ3
        have HK3 := Lib.hid (HK1.out.trans hk3)
        have hz3 : n₀ ≤ W3.heap.size := Nat.le_trans (Nat.le_trans hnW HK1.out.size) hk3.size
        clear hJ3 hk3 hy hR
        gi_wp2
        go_roundw
        case rel => exact ⟨k + 1, hlt, by simp, by rw [HTK.out]; exact HJ3.out, HK3, hz3⟩
        case measure => simp [intOf]; omega
      · gi_wp2
        refine bodyPost_ret (results_none rfl _ _ _) rfl ?_
        exact ⟨⟨_, rfl⟩, .inr ⟨_, trivial, hJx3⟩⟩
    · obtain rfl : k = L.length := by omega
      gi_wp2
      go_end0
      exact ⟨⟨_, rfl⟩, .inl ⟨L, rfl, by rw [List.take_length] at hJ; exact hJ⟩⟩
theorem arr13 {t : Array Value} (h : t.size = 13) : ∃ x0 x1 x2 x3 x4 x5 x6 x7 x8 x9 x10 x11 x12, t = #[x0, x1, x2, x3, x4, x5, x6, x7, x8, x9, x10, x11, x12] := by
  obtain ⟨l⟩ := t
  match l, h with
  | x0 :: x1 :: x2 :: x3 :: x4 :: x5 :: x6 :: x7 :: x8 :: x9 :: x10 :: x11 :: x12 :: [], _ => exact ⟨x0, x1, x2, x3, x4, x5, x6, x7, x8, x9, x10, x11, x12, rfl⟩
/-- A struct in a box of its own. -/
def BoxI (W : World) (b : Nat) (x : It) : Prop := W.heap[b]? = some (.cells #[.int .i64 x.id, .int .i64 x.base, .int .i64 x.since] 32 (0, 0))
theorem BoxI.own {β : Type} {B : Nat} (b : Nat) (x : It) : OwnFrom B (fun (_ : β) W => BoxI W b x) := fun _ X Y row hs hg hr =>
  (hg.block b (blk_lt hs) (fun e => by
    obtain ⟨_, o, ho, hc⟩ := hr b e.symm
    have hs' : X.heap[b]? = some (.cells #[.int .i64 x.id, .int .i64 x.base, .int .i64 x.since] 32 (0, 0)) := hs
    rw [hs'] at ho; cases ho; cases hc)).trans hs
/-- The frame in a round of AppendSeq. -/
structure FrA (B Bx : Nat) (a : Act) : Prop where
  z : a.tmps.size = 13
  s2 : a.tmps.getD 2 undef = pt B
  s5 : a.tmps.getD 5 undef = pt Bx
  d : a.defers = []
/-- What AppendSeq keeps from round to round. -/
structure ApI (w : World) (pre : List It) (V : World) : Prop where
  l : ∃ v, Boxed V w.heap.size 51 v ∧ V.ownsRow w.heap.size 32 3 v pre.length (pre.flatMap itC) ∧ True
  b : Below w.heap.size w V
theorem ApI.own {w : World} {B : Nat} (hB : w.heap.size ≤ B) : OwnFrom B (fun (pre : List It) V => ApI w pre V) := by
  have h1 : OwnFrom B (fun (pre : List It) V => (∃ v, Boxed V w.heap.size 51 v ∧ V.ownsRow w.heap.size 32 3 v pre.length (pre.flatMap itC) ∧ True) ∧ Below w.heap.size w V) :=
    OwnFrom.and ((holdsRow_own w.heap.size w.heap.size 51 32 3 (fun pre : List It => pre.length) (fun pre => pre.flatMap itC) (fun _ _ => True)).from _) (ownFrom_below (Nat.le_refl _) hB)
  intro s X Y row hs hg hr
  obtain ⟨a, b⟩ := h1 s X Y row ⟨hs.l, hs.b⟩ hg hr
  exact ⟨a, b⟩
theorem rowH_own {β : Type} (B e z n : Nat) (v : Value) (xs : List Value) : Own (fun (_ : β) W => W.ownsRow B e z v n xs) := fun s X Y row hs hg hr => hs.kept hg (by
  cases hv : v.ownBlock with
  | none => exact .inl rfl
  | some g =>
    right; intro e'
    obtain ⟨o, ho, hc⟩ := hr g e'.symm
    rcases hs.2 with ⟨rfl, _⟩ | ⟨g', cap, cur, rfl, _, hg', _⟩
    · cases hv
    · simp only [Value.ownBlock, Option.some.injEq] at hv
      subst hv
      rw [hg'] at ho; cases ho; cases hc)
/-- The marks of one loop that has ended. -/
theorem leaveH {β : Type} {n : Nat} {P : Program} {fn : Func} {tmps : Array Value} {R : Ending → World → Prop} {B D : Nat} {J : β → World → Prop} (hJ : OwnFrom B J) (s : β) {W : World} (hr : ∀ W, J s W → ∃ v, (results fn tmps).run P W = .ok v W ∧ R (.returned v) W) (hD : B ≤ D) (hd : W.heap[D]? = some (.deferred (some []))) (h : J s W) :
    LeavesInM Fence.wide n P fn tmps R [{ target := .collected D, args := #[] }] .returning W :=
  ⟨by simp, .inl ⟨D, _, rfl, run_takeDeferred hd, hr _ (hJ.putObj _ h hD hd rfl)⟩⟩
theorem snoc_it (pre : List It) (x : It) : (pre ++ [x]).flatMap itC = pre.flatMap itC ++ itC x := by rw [List.flatMap_append]; simp
set_option maxRecDepth 100000 in
set_option maxHeartbeats 4000000 in
theorem append_seq (w : World) (gf : Nat) (lb : Array Value) (eg : ∀ args w, (callFunc gf args).run Try.prog w = .ok (.enter gf args) w) (L : List It) (hl : L.length ≤ 100000)
    (hseq : ∀ W4, Below w.heap.size w W4 → SeqStopsK Fence.wide 5 Try.prog gf lb (fun x : It => #[itV x]) (Below w.heap.size) (fun ys => ys = L) (fun _ => True) L.length W4) :
    Calls Try.prog 68 #[.slice none 0 0, .func (.func gf) #[] lb] w fun e w' => ∃ v, e = .returned v ∧ w'.ownsRow w.heap.size 32 3 v L.length (L.flatMap itC) ∧ Below w.heap.size w w' := by
  obtain ⟨ii, hii0, hii1, hii2, hii3⟩ := info_parts info_it
  refine (callsIn_wide (n := 6)).1 ?_
  refine callsIn_of_wp_marks Try.func68 rfl trivial ?_ rfl
  simp only [Try.ntmps68, List.size_toArray, List.length_cons, List.length_nil, Nat.reduceAdd, Nat.reduceSub, Array.replicate_succ, Array.replicate_zero, List.push_toArray, List.append_toArray, List.nil_append, List.cons_append]
  gi_wp2
  obtain ⟨W4, hW4⟩ : ∃ W4, W4 = w.alloc (.cells #[.slice none 0 0] 51) := ⟨_, rfl⟩
  have hb4 : Below w.heap.size w W4 := by rw [hW4]; exact (Below.refl _ _).alloc (Nat.le_refl _) _
  have hs4 : W4.heap.size = w.heap.size + 1 := by rw [hW4, World.size_alloc]
  have a0 : W4.heap[w.heap.size]? = some (.cells #[.slice none 0 0] 51 (0, 0)) := by rw [hW4]; exact heap_new w _
  show Code.wpIn _ _ _ _ _ _ (w.alloc (.cells #[.slice none 0 0] 51))
  rw [← hW4]
  clear hW4
  refine wpIn_rangeFunc_ownH (α := It) rfl (by omega) (gf := gf) (lb := lb) rfl trivial eg
    (encs := fun x => #[itV x]) (Kp := Below w.heap.size) (S := fun ys => ys = L) (Sp := fun _ => True) (N := L.length) (w0 := W4)
    ?seq (fun h k => h.trans k) ?kb (Below.refl _ _) (fun _ => rfl)
    (fun pre V => ApI w pre V) (fun _ _ _ => False)
    ?own (fun _ _ _ _ _ hs _ _ => hs) ?start (fun x a' W => ∃ Bx, w.heap.size < Bx ∧ BoxI W Bx x ∧ FrA w.heap.size Bx a') ?ownx ?assign ?body ?done ?stop
  case seq => exact hseq W4 hb4
  case kb => exact fun W l o o' hl _ _ _ => ⟨rfl, rfl, rfl, by simp, fun k hk => World.putObj_heap_other (by omega)⟩
  case own => exact ApI.own (by omega)
  case start => exact ⟨⟨_, a0, World.ownsRow_nil _ _ _ _, trivial⟩, hb4⟩
  case ownx =>
    rintro x a' s X Y row ⟨Bx, h1, h2, h3⟩ hg hr
    exact ⟨Bx, h1, BoxI.own (β := Unit) Bx x () X Y row h2 hg hr, h3⟩
  case assign =>
    rintro lp pre ⟨xi, xb, xs⟩ V K hi hK
    gi_wp2
    refine hK _ _ ((KeepsOthers.alloc _ _).from _) ((Below.refl _ V).alloc hi.b.size _) ((ApI.own (Nat.le_refl _)).alloc _ hi) ⟨V.heap.size, ?_, heap_new V _, ⟨rfl, rfl, rfl, rfl⟩⟩
    obtain ⟨v, hv, _⟩ := hi.l
    exact hv.lt
  case body =>
    rintro lp pre x ⟨tm, df⟩ V hlp hrl hi ⟨Bx, hbx, hX, hf⟩ hlen
    obtain ⟨y0, y1, y2, y3, y4, y5, y6, y7, y8, y9, y10, y11, y12, rfl⟩ := arr13 hf.z
    obtain rfl : y2 = _ := hf.s2
    obtain rfl : y5 = _ := hf.s5
    obtain rfl : df = _ := hf.d
    obtain ⟨v, hv, hrow, _⟩ := hi.l
    obtain ⟨va, vc, rfl⟩ := own_slice hrow
    have cv := hv.cell
    have fv := hv.frozen
    have hBl := hv.lt
    obtain ⟨xi, xb, xs⟩ := x
    have hX' : V.heap[Bx]? = some (.cells #[.int .i64 xi, .int .i64 xb, .int .i64 xs] 32 (0, 0)) := hX
    have e0 : V.cell? ⟨Bx, 0, none⟩ = some (.int .i64 xi) := cell_blk (i := 0) hX' rfl
    have e1 : V.cell? ⟨Bx, 1, none⟩ = some (.int .i64 xb) := cell_blk (i := 1) hX' rfl
    have e2 : V.cell? ⟨Bx, 2, none⟩ = some (.int .i64 xs) := cell_blk (i := 2) hX' rfl
    have hxl := blk_lt hX'
    have HI := Lib.hid hi
    have HV := Lib.hid hv
    have HR := Lib.hid hrow
    have hpl : pre.length + 1 ≤ 100000 := by omega
    clear hi hf hX hX' hrow hlp hrl
    gi_wp2_with (gi_at_builtin; refine wpListIn_append_own_at _ rfl _ _ 51 rfl w.heap.size 32 ii _ 3 24 Try.underlying51 hii0 hii1 hii2 hii3 rfl (by decide) _ _ _ rfl (HR.out.alloc _) ⟨V.heap.size, 0, none⟩ 1 1 [.int .i64 xi, .int .i64 xb, .int .i64 xs] rfl rfl (fun j u hj => by rw [Addr.add_lit, Nat.zero_add]; exact cell_blk (heap_new V _) (by simpa using hj)) (by intro u hu; simp at hu; rcases hu with rfl | rfl | rfl <;> rfl) (by unfold maxLen; omega) (by omega) (by have := HI.out.b.size; rw [World.size_alloc]; omega) ?_)
    intro v' w1 hown' hgrow _ _
    obtain ⟨g', cap', rfl⟩ := ownsRow_succ hown'
    obtain ⟨hv1, hv2, hr2, hk2, hb2⟩ := HV.out.appended (by decide) HR.out HI.out.b.size (Nat.le_refl _) hown' hgrow
    have hc1 := hv1.cell
    have hf1 := hv1.frozen
    have hl1 := hv1.lt
    have HF := Lib.hid (And.intro hv2 (And.intro hr2 (And.intro hk2 hb2)))
    clear hv1 hv2 hr2 hk2 hb2 hown' hgrow
    gi_wp2
    obtain ⟨hv2, hr2, hk2, hb2⟩ := HF.out
    refine ⟨hk2.from _, hb2, ⟨_, hv2, ?_, trivial⟩, HI.out.b.trans hb2⟩
    rw [snoc_it, List.length_append, List.length_singleton]
    exact hr2
  case done =>
    rintro D ys V hD rfl hi hDd
    obtain ⟨v, hv, hrow, _⟩ := hi.l
    obtain ⟨va, vc, rfl⟩ := own_slice hrow
    have cv := hv.cell
    have hBl := hv.lt
    have HI := Lib.hid hi
    have HR := Lib.hid hrow
    clear hi hrow hv
    have HK := Lib.hid hDd
    clear hDd
    gi_wp2
    exact leaveH (J := fun (_ : Unit) V => V.ownsRow w.heap.size 32 3 (.slice va ys.length vc) ys.length (ys.flatMap itC) ∧ Below w.heap.size w V) (OwnFrom.and ((rowH_own _ _ _ _ _ _).from _) (ownFrom_below (Nat.le_refl _) (Nat.le_refl _))) ()
      (fun V h => by refine ⟨_, results_tmp rfl _ _ _, ?_⟩; exact ⟨_, rfl, h.1, h.2⟩) (by omega) HK.out ⟨HR.out, HI.out.b⟩
  case stop => exact fun _ _ _ _ _ _ h _ => h.elim
set_option maxRecDepth 100000 in
set_option maxHeartbeats 1000000 in
theorem collect_any (w : World) (gf : Nat) (lb : Array Value) (eg : ∀ args w, (callFunc gf args).run Try.prog w = .ok (.enter gf args) w) (L : List It) (hl : L.length ≤ 100000)
    (hseq : ∀ W4, Below w.heap.size w W4 → SeqStopsK Fence.wide 5 Try.prog gf lb (fun x : It => #[itV x]) (Below w.heap.size) (fun ys => ys = L) (fun _ => True) L.length W4) :
    Calls Try.prog 61 #[.func (.func gf) #[] lb] w fun e w' => ∃ a c, e = .returned (.slice a L.length c) ∧ w'.ownsRow w.heap.size 32 3 (.slice a L.length c) L.length (L.flatMap itC) ∧ Below w.heap.size w w' := by
  have CA := Lib.hid (append_seq w gf lb eg L hl hseq)
  clear hseq eg
  go_enter Try.func61, Try.ntmps61
  go_wp2_with fail
  refine CA.out.mono ?_
  rintro e w' ⟨v, rfl, hr, hb⟩
  obtain ⟨a, c, rfl⟩ := own_slice hr
  have HR := Lib.hid hr
  have HB := Lib.hid hb
  clear hr hb
  go_wp2_with fail
  go_ret
  exact ⟨_, _, rfl, HR.out, HB.out⟩
end Go.Proofs.Ytcipgjelbnmdiaa.HP
