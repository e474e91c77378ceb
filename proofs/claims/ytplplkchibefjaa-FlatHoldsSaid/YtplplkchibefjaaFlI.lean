/-
  Contract of flat.Make of a graph that may be: the walk.
-/
import Derived.Test.YtplplkchibefjaaFlM
namespace Go.Proofs.Ytplplkchibefjaa
open Go.RowKit Go.Shelf
attribute [local go_sem] Oper.semAt_some

/-- Make has told ErrMany. -/
structure MX (w : World) (B1 : Nat) (W : World) : Prop where
  b : Below w.heap.size w W
  z : B1 + 5 ≤ W.heap.size
  r1 : W.heap[w.heap.size + 1]? = some (.cells #[.slice none 0 0, .slice none 0 0] 32 (0, 0))
  r2 : W.heap[w.heap.size + 1 + 1]? = some (.cells #[.int .i64 4] 33 (0, 0))
theorem MX.own {β : Type} {w : World} {B1 : Nat} (hw : w.heap.size + 3 ≤ B1) : OwnFrom (B1 + 5) (fun (_ : β) W => MX w B1 W) := fun _ X Y row hs hg hr => by
  have hz := hs.z
  have hk : ∀ k, k < B1 + 5 → Y.heap[k]? = X.heap[k]? := fun k hk => hg.block k (by omega) (fun e => by have := (hr k e.symm).1; omega)
  exact ⟨hs.b.grown hg (by omega) (fun k e => by have := (hr k e).1; omega), Nat.le_trans hz hg.size, (hk _ (by omega)).trans hs.r1, (hk _ (by omega)).trans hs.r2⟩
theorem MM.many {w : World} {g : Gr} {B1 : Nat} {l : List Ti} {W : World} (h : MM w g B1 l W) :
    MX w B1 (((W.setCell ⟨w.heap.size + 1, 0, none⟩ (.slice none 0 0)).setCell ⟨w.heap.size + 1, 1, none⟩ (.slice none 0 0)).setCell ⟨w.heap.size + 1 + 1, 0, none⟩ (.int .i64 4)) := by
  obtain ⟨e1, e2, e3, _, e5⟩ := end_of h.c.b h.c.r1 h.c.r2 (.slice none 0 0) (.slice none 0 0) (.int .i64 4)
  exact ⟨e3, by rw [e5]; exact h.c.z, e1, e2⟩
/-- The frame of a round. -/
structure MkA (w : World) (B1 : Nat) (x : Ti) (a : Act) (W : World) : Prop where
  z : a.tmps.size = 66
  s2 : a.tmps.getD 2 undef = .pointer (some ⟨w.heap.size + 1, 0, none⟩)
  s3 : a.tmps.getD 3 undef = .pointer (some ⟨w.heap.size + 1 + 1, 0, none⟩)
  s6 : a.tmps.getD 6 undef = .pointer (some ⟨B1 + 1, 0, none⟩)
  s7 : a.tmps.getD 7 undef = .pointer (some ⟨B1 + 1 + 1 + 1, 0, none⟩)
  d : a.defers = []
  t : ∃ Bx, B1 + 5 ≤ Bx ∧ W.heap[Bx]? = some (.cells #[.int .i64 x.kind, .int .i64 x.fr, .int .i64 x.to, .int .i64 x.time] 49 (0, 0)) ∧ a.tmps.getD 8 undef = .pointer (some ⟨Bx, 0, none⟩)
theorem MkA.own {β : Type} {w : World} {B B1 : Nat} {x : Ti} {a : Act} : OwnFrom B (fun (_ : β) W => MkA w B1 x a W) := fun _ X Y row hs hg hr => by
  obtain ⟨Bx, h1, h2, h3⟩ := hs.t
  refine ⟨hs.z, hs.s2, hs.s3, hs.s6, hs.s7, hs.d, Bx, h1, (hg.block _ (Array.getElem?_eq_some_iff.1 h2).1 (fun e => ?_)).trans h2, h3⟩
  obtain ⟨_, o, h4, h5⟩ := hr _ e.symm
  rw [h2] at h4; cases h4; cases h5
theorem arr66 {t : Array Value} (h : t.size = 66) : ∃ x0 x1 x2 x3 x4 x5 x6 x7 x8 x9 x10 x11 x12 x13 x14 x15 x16 x17 x18 x19 x20 x21 x22 x23 x24 x25 x26 x27 x28 x29 x30 x31 x32 x33 x34 x35 x36 x37 x38 x39 x40 x41 x42 x43 x44 x45 x46 x47 x48 x49 x50 x51 x52 x53 x54 x55 x56 x57 x58 x59 x60 x61 x62 x63 x64 x65, t = List.toArray (x0 :: x1 :: x2 :: x3 :: x4 :: x5 :: x6 :: x7 :: x8 :: x9 :: x10 :: x11 :: x12 :: x13 :: x14 :: x15 :: x16 :: x17 :: x18 :: x19 :: x20 :: x21 :: x22 :: x23 :: x24 :: x25 :: x26 :: x27 :: x28 :: x29 :: x30 :: x31 :: x32 :: x33 :: x34 :: x35 :: x36 :: x37 :: x38 :: x39 :: x40 :: x41 :: x42 :: x43 :: x44 :: x45 :: x46 :: x47 :: x48 :: x49 :: x50 :: x51 :: x52 :: x53 :: x54 :: x55 :: x56 :: x57 :: x58 :: x59 :: x60 :: x61 :: x62 :: x63 :: x64 :: x65 :: []) := by
  obtain ⟨l⟩ := t
  match l, h with
  | x0 :: x1 :: x2 :: x3 :: x4 :: x5 :: x6 :: x7 :: x8 :: x9 :: x10 :: x11 :: x12 :: x13 :: x14 :: x15 :: x16 :: x17 :: x18 :: x19 :: x20 :: x21 :: x22 :: x23 :: x24 :: x25 :: x26 :: x27 :: x28 :: x29 :: x30 :: x31 :: x32 :: x33 :: x34 :: x35 :: x36 :: x37 :: x38 :: x39 :: x40 :: x41 :: x42 :: x43 :: x44 :: x45 :: x46 :: x47 :: x48 :: x49 :: x50 :: x51 :: x52 :: x53 :: x54 :: x55 :: x56 :: x57 :: x58 :: x59 :: x60 :: x61 :: x62 :: x63 :: x64 :: x65 :: [], _ => exact ⟨x0, x1, x2, x3, x4, x5, x6, x7, x8, x9, x10, x11, x12, x13, x14, x15, x16, x17, x18, x19, x20, x21, x22, x23, x24, x25, x26, x27, x28, x29, x30, x31, x32, x33, x34, x35, x36, x37, x38, x39, x40, x41, x42, x43, x44, x45, x46, x47, x48, x49, x50, x51, x52, x53, x54, x55, x56, x57, x58, x59, x60, x61, x62, x63, x64, x65, rfl⟩

theorem own_turn {W W' : World} {row : Option Nat} {B e z n : Nat} {v : Value} {xs : List Value} (h : W.ownsRow B e z v n xs) (hg : W.grownBy W' row) (hr : ∀ r, row = some r → ∃ o : Obj, W.heap[r]? = some o ∧ o.isCells = false) : W'.ownsRow B e z v n xs := by
  refine h.kept hg ?_
  rcases h.2 with ⟨rfl, _⟩ | ⟨g, cap, cur, rfl, _, hgg, _⟩
  · exact .inl rfl
  · right
    intro e
    obtain ⟨o, ho, hc⟩ := hr g (by rw [← e]; rfl)
    rw [hgg] at ho; cases ho; cases hc
theorem own_base' {W : World} {B B' e z n : Nat} {v : Value} {xs : List Value} (h : W.ownsRow B e z v n xs) (hB : B' ≤ B) : W.ownsRow B' e z v n xs := by
  refine ⟨h.1, ?_⟩
  rcases h.2 with h2 | ⟨g, cap, cur, hv, hg, r⟩
  · exact .inl h2
  · exact .inr ⟨g, cap, cur, hv, Nat.le_trans hB hg, r⟩
/-- Make has told a flat graph. -/
structure MD (w : World) (g : Gr) (B1 : Nat) (l : List Ti) (v1 v2 : Value) (W : World) : Prop where
  b : Below w.heap.size w W
  z : B1 + 5 ≤ W.heap.size
  r1 : W.heap[w.heap.size + 1]? = some (.cells #[v1, v2] 32 (0, 0))
  r2 : W.heap[w.heap.size + 1 + 1]? = some (.cells #[.int .i64 0] 33 (0, 0))
  o1 : W.ownsRow w.heap.size 46 6 v1 g.es.length (g.es.flatMap evC)
  o2 : W.ownsRow w.heap.size 49 4 v2 l.length (l.flatMap tiC)
theorem MD.own {β : Type} {w : World} {g : Gr} {B1 : Nat} {l : List Ti} {v1 v2 : Value} (hw : w.heap.size + 3 ≤ B1) : OwnFrom (B1 + 5) (fun (_ : β) W => MD w g B1 l v1 v2 W) := fun _ X Y row hs hg hr => by
  have hz := hs.z
  have hk : ∀ k, k < B1 + 5 → Y.heap[k]? = X.heap[k]? := fun k hk => hg.block k (by omega) (fun e => by have := (hr k e.symm).1; omega)
  exact ⟨hs.b.grown hg (by omega) (fun k e => by have := (hr k e).1; omega), Nat.le_trans hz hg.size, (hk _ (by omega)).trans hs.r1, (hk _ (by omega)).trans hs.r2, own_turn hs.o1 hg (fun r e => (hr r e).2), own_turn hs.o2 hg (fun r e => (hr r e).2)⟩
theorem MM.done {w : World} {g : Gr} {B1 Bz : Nat} {l : List Ti} {v1 v2 : Value} {W : World} (h : MM w g B1 l W) (hw : w.heap.size + 3 ≤ B1) (hv : W.heap[B1 + 1]? = some (.cells #[v2] 30 (0, 0))) (h1 : W.ownsRow Bz 46 6 v1 g.es.length (g.es.flatMap evC)) (hB : B1 + 5 ≤ Bz) :
    MD w g B1 l v1 v2 (((W.setCell ⟨w.heap.size + 1, 0, none⟩ v1).setCell ⟨w.heap.size + 1, 1, none⟩ v2).setCell ⟨w.heap.size + 1 + 1, 0, none⟩ (.int .i64 0)) := by
  obtain ⟨e1, e2, e3, _, e5⟩ := end_of h.c.b h.c.r1 h.c.r2 v1 v2 (.int .i64 0)
  obtain ⟨v, hv', h2⟩ := h.v
  rw [hv] at hv'
  obtain rfl : v2 = v := by cases hv'; rfl
  have far : ∀ {e z n : Nat} {B : Nat} {v : Value} {xs : List Value} {X : World} (b i : Nat) (u : Value), b < B → X.ownsRow B e z v n xs → (X.setCell ⟨b, i, none⟩ u).ownsRow B e z v n xs := fun b i u hb ho =>
    ownsRow_setCell_other ho (fun e => by have : _ ≤ b := (ho.lt _ e).1; omega) u
  exact ⟨e3, by rw [e5]; exact h.c.z, e1, e2, own_base' (far _ _ _ (by omega) (far _ _ _ (by omega) (far _ _ _ (by omega) h1))) (by omega), own_base' (far _ _ _ (by omega) (far _ _ _ (by omega) (far _ _ _ (by omega) h2))) (by omega)⟩
theorem wpIn_never {F : Fence} {n : Nat} {P : Program} {c : Code} {K : Act → World → Prop} {Q' : Exit → Act → World → Prop} {a : Act} {w : World} (h : c.wpIn F n P (Exit.then K (fun _ _ _ => False)) a w) : c.wpIn F n P (Exit.then K Q') a w :=
  wpIn_mono h (fun e a w h => by
    cases e with
    | normal => exact h
    | exit id => exact h.elim
    | goto l => exact h.elim
    | ret => exact h.elim
    | panic ch => exact h.elim
    | outgrown => exact h.elim)
theorem wpIn_calm {F : Fence} {n : Nat} {P : Program} {c : Code} {Q : Exit → Act → World → Prop} {a : Act} {w : World} (h : c.wpIn F n P (Exit.then (Q .normal) (fun _ _ _ => False)) a w) : c.wpIn F n P Q a w :=
  wpIn_mono h (fun e a w h => by
    cases e with
    | normal => exact h
    | exit id => exact h.elim
    | goto l => exact h.elim
    | ret => exact h.elim
    | panic ch => exact h.elim
    | outgrown => exact h.elim)
theorem info_ti : (Try.prog.info? 49).map (fun i => (i.zero, i.size, i.bytes)) = some (some (.agg #[.int .i64 0, .int .i64 0, .int .i64 0, .int .i64 0]), 4, 32) := by kernel_rfl
/-- What the look-up tells. -/
def dT (l : List Ti) (t : Ti) : Nat := if hasT_ l t then atT l t else 0
theorem Kq.all {Bl Bm : Nat} {A B : World} (h : Kq Bl Bm A.heap.size A B) : ∀ m, Kq Bl Bm m A B := fun _ => ⟨h.size, fun k _ hp => h.kept k hp.lt hp, h.ok⟩
theorem keeps_below {B : Nat} {V W : World} (h : Below V.heap.size V W) : KeepsFrom B V W := ⟨h.size, fun k _ _ ho _ => (h.block k (Array.getElem?_eq_some_iff.1 ho).1).trans ho⟩
theorem look_t {w : World} {g : Gr} {B1 : Nat} {l : List Ti} {t : Ti} {V V' : World} (h : MM w g B1 l V) (hb : V'.heap[B1 + 1 + 1]? = V.heap[B1 + 1 + 1]?) (ht : OkT t) : (Instr.lookup 47 (.map (some (B1 + 1 + 1))) (.agg #[.int .i64 t.kind, .int .i64 t.fr, .int .i64 t.to, .int .i64 0]) true).run Try.prog V' = .ok (.tuple #[.int .i64 ((dT l t : Nat) : Int), .bool (hasT_ l t)]) V' := by
  have h1 := (h.m.block hb).look_ok lawT Try.underlying47 Try.underlying3 (Try.zeroValue3 _) (keyT ht)
  rw [first_t h.ok ht] at h1
  unfold dT
  cases hh : hasT_ l t
  · rw [hh] at h1; exact h1
  · rw [hh] at h1; exact h1

set_option maxRecDepth 100000 in
set_option maxHeartbeats 16000000 in
theorem make_yes (w : World) (g : Gr) (hI : InG w g) (hz : SzG g) (hcap : ∀ u ∈ g.us, u.roles.length ≤ u.rc) (hm : mayL g = true) :
    Calls Try.prog 17 #[.agg #[.slice g.ga g.gs.length g.gc, .slice g.ea g.es.length g.ec, .slice g.ra g.rs.length g.rc, .slice g.ua g.us.length g.uc]] w fun e w' =>
      Below w.heap.size w w' ∧ (foldT [] (toldL g g.rs.length) = none → e = .returned (.tuple #[.agg #[.slice none 0 0, .slice none 0 0], .int .i64 4])) ∧
      (∀ l, foldT [] (toldL g g.rs.length) = some l → l.length ≤ 8000 ∧ (∀ t ∈ l, OkT t) ∧ ∃ v1 v2, e = .returned (.tuple #[.agg #[v1, v2], .int .i64 0]) ∧ w'.ownsRow w.heap.size 46 6 v1 g.es.length (g.es.flatMap evC) ∧ w'.ownsRow w.heap.size 49 4 v2 l.length (l.flatMap tiC)) := by
  have C := Lib.hid (check_any (mkW w g) g (hI.below (Nat.le_refl _) (mkW_below w g)) hz hcap)
  rw [may_checkF hm] at C
  have H80 := es80 hm
  have HOK := Lib.hid (told_ok hz H80)
  have HS := Lib.hid (mkW_size w g)
  have HI := Lib.hid hI
  have HZ := Lib.hid hz
  have HCAP := Lib.hid hcap
  have HM := Lib.hid hm
  have HST := fun (w1 : World) (q1 q2 : Int) hb => Lib.hid (st_start (w := w) (w1 := w1) (g := g) (q1 := q1) (q2 := q2) hb)
  have HG : ∀ w1 : World, Below (mkW w g).heap.size (mkW w g) w1 → Hid (w1.heap[w.heap.size]? = some (.cells #[.slice g.ga g.gs.length g.gc, .slice g.ea g.es.length g.ec, .slice g.ra g.rs.length g.rc, .slice g.ua g.us.length g.uc] 27 (0, 0))) := fun w1 hb => Lib.hid (by
    refine (hb.block _ (by have := mkW_size w g; omega)).trans ?_
    exact (Below.heap_alloc _ _ _ (by rw [World.size_alloc, box_size]; omega)).trans ((Below.heap_alloc _ _ _ (by rw [box_size]; omega)).trans (heap_new _ _)))
  clear hI hz hcap hm
  unfold mkW boxW at C HS HST HG
  refine (callsIn_wide (n := 8)).1 ?_
  refine callsIn_of_wp_marks Try.func17 rfl trivial ?_ rfl
  simp only [Try.ntmps17, List.size_toArray, List.length_cons, List.length_nil, Nat.reduceAdd, Nat.reduceSub, Array.replicate_succ, Array.replicate_zero, List.push_toArray, List.append_toArray, List.nil_append, List.cons_append]
  gi_wp2_with fail
  refine ⟨trivial, ?_⟩
  refine (callsIn_wide.2 C.out).mono ?_
  rintro e w1 ⟨rfl, hb⟩
  have hw1 := hb.size
  rw [HS.out] at hw1
  have gb := (HG w1 hb).out
  have c0 : w1.cell? ⟨w.heap.size, 0, none⟩ = some (.slice g.ga g.gs.length g.gc) := cell_blk gb rfl
  have c1 : w1.cell? ⟨w.heap.size, 1, none⟩ = some (.slice g.ea g.es.length g.ec) := cell_blk gb rfl
  have c2 : w1.cell? ⟨w.heap.size, 2, none⟩ = some (.slice g.ra g.rs.length g.rc) := cell_blk gb rfl
  have c3 : w1.cell? ⟨w.heap.size, 3, none⟩ = some (.slice g.ua g.us.length g.uc) := cell_blk gb rfl
  have HS1 := HST w1 (checkL g).1 (checkL g).2.1 hb
  generalize (checkL g).1 = q1 at *
  generalize (checkL g).2.1 = q2 at *
  have l1 : w.heap.size < w1.heap.size := by omega
  have l2 : w.heap.size < w1.heap.size + 1 := by omega
  have l3 : w.heap.size < w1.heap.size + 1 + 1 := by omega
  have l4 : w.heap.size < w1.heap.size + 1 + 1 + 1 := by omega
  clear gb HG HST C HS hb
  have hmm := @run_makeMap Try.prog
  gi_wp2_with fail
  refine ⟨trivial, ?_⟩
  refine (callsIn_wide.2 (told_any g _)).mono ?_
  rintro e w2 ⟨rfl, rfl⟩
  clear c0 c1 c2 c3 hmm
  gi_wp2
  obtain ⟨W0, hW0⟩ : ∃ W0, W0 = stW w1 g q1 q2 := ⟨_, rfl⟩
  have hz0 : W0.heap.size = w1.heap.size + 5 := by rw [hW0]; exact stW_size _ _ _ _
  rw [← hW0] at HS1
  have hW0' := hW0.symm
  unfold stW at hW0'
  simp only [boxW]
  rw [hW0']
  clear hW0 hW0'
  have HM0 := Lib.hid HS1.out.1
  have HG0 := Lib.hid HS1.out.2.1
  have HB0 := Lib.hid HS1.out.2.2
  clear HS1 l1 l2 l3 l4
  generalize w1.heap.size = B1 at *
  have hmx : Try.prog.follows .mixedOrders = true := by kernel_rfl
  refine rf_own (α := Ti) (by omega) (gf := 82) (lb := #[.pointer (some ⟨B1 + 1 + 1 + 1 + 1, 0, none⟩)]) rfl (enters_of Try.func82 (by kernel_rfl) rfl)
    (encs := fun t => #[.agg #[.int .i64 t.kind, .int .i64 t.fr, .int .i64 t.to, .int .i64 t.time]]) (Kp := fun A B => ∀ m, Kq (B1 + 1) (B1 + 1 + 1) m A B) (L := toldL g g.rs.length) (w0 := W0)
    ?seq (fun h1 h2 m => (h1 m).trans (h2 m)) (fun W l r r' h1 h2 m => kq_loop (by omega) h2) (Below.refl _ _) (fun _ => rfl)
    (fun pre W => ∃ l, foldT [] pre = some l ∧ MM w g B1 l W) (fun c pre W => c = .ret ∧ foldT [] pre = none ∧ MX w B1 W)
    ?own ?ownx ?h0 (fun x a' W => MkA w B1 x a' W) (fun x a' => MkA.own) ?assign ?body ?done ?stop
  case seq =>
    intro lp J Jx W hW hJ hJx hY h0
    have hMM := HM0.out.below (hW.mono (by omega)) (by omega)
    have hIW : InG W g := HI.out.below (Nat.le_refl _) (HB0.out.trans (hW.mono HB0.out.size))
    have gbx : W.heap[B1 + 1 + 1 + 1 + 1]? = _ := (hW.block _ (by omega)).trans HG0.out
    refine told1_in 7 (by omega) lp (B1 + 1 + 1 + 1 + 1) (B1 + 1) (B1 + 1 + 1) g HZ.out H80 J Jx W hJ hJx (fun pre x W1 h1 h2 => (hY pre x W1 h1 h2).mono (fun e W' hr => hr.imp (fun h => ⟨h.1, h.2.1, h.2.2.1 _, h.2.2.2⟩) (fun h => h)))
      hIW HCAP.out hMM.rowOk ?_ (cell_blk gbx rfl) (cell_blk gbx rfl) (cell_blk gbx rfl) (cell_blk gbx rfl) h0
    intro b off hA hne
    have h1 : 0 < g.rs.length := by cases hq : g.rs with
      | nil => exact absurd hq hne
      | cons x r => simp
    obtain ⟨b', off', hA', hb, hc⟩ := HI.out.rs.at_ (k := 4) (fun _ => rfl) (by omega) h1
    rw [hA] at hA'
    obtain ⟨rfl, rfl⟩ : b = b' ∧ off = off' := by
      simp only [Option.some.injEq, Addr.mk.injEq] at hA'; exact ⟨hA'.1, hA'.2.1⟩
    obtain ⟨o, ho, hk⟩ := keepO_of (hc 0 _ rfl)
    obtain ⟨v, hv, hov⟩ := hMM.v
    refine ⟨by omega, by omega, ?_, o, ((HB0.out.trans (hW.mono HB0.out.size)).block _ hb).trans ho, hk⟩
    rw [rowB_of hv]
    intro e
    have := (hov.lt _ e).1; omega
  case own =>
    rintro s A B row ⟨l, h1, h2⟩ hg hr
    exact ⟨l, h1, h2.own (by omega) hg (fun r e => ⟨by have := (hr r e).1; omega, (hr r e).2⟩)⟩
  case ownx => exact fun c s A B row hs hg hr => ⟨hs.1, hs.2.1, MX.own (β := Unit) (by omega) () A B row hs.2.2 hg (fun r e => ⟨by have := (hr r e).1; omega, (hr r e).2⟩)⟩
  case h0 => exact ⟨[], rfl, HM0.out⟩
  case assign =>
    rintro lp pre x W K ⟨l, h1, h2⟩ hK
    have hzW := h2.c.z
    gi_wp2
    refine hK _ _ ((KeepsOthers.alloc _ _).from _) (fun m => Kq.below (by omega) ((Below.refl _ _).alloc (Nat.le_refl _) _)) ⟨l, h1, h2.below ((Below.refl _ _).alloc (Nat.le_refl _) _) (by omega)⟩ ⟨rfl, rfl, rfl, rfl, rfl, rfl, W.heap.size, by omega, heap_new _ _, rfl⟩
  case body =>
    rintro lp pre x ⟨tm, df⟩ V ⟨l, hf, hmm⟩ ha hlen
    obtain ⟨x0, x1, x2, x3, x4, x5, x6, x7, x8, x9, x10, x11, x12, x13, x14, x15, x16, x17, x18, x19, x20, x21, x22, x23, x24, x25, x26, x27, x28, x29, x30, x31, x32, x33, x34, x35, x36, x37, x38, x39, x40, x41, x42, x43, x44, x45, x46, x47, x48, x49, x50, x51, x52, x53, x54, x55, x56, x57, x58, x59, x60, x61, x62, x63, x64, x65, rfl⟩ := arr66 ha.z
    obtain rfl : x2 = _ := ha.s2
    obtain rfl : x3 = _ := ha.s3
    obtain rfl : x6 = _ := ha.s6
    obtain rfl : x7 = _ := ha.s7
    obtain ⟨Bx, hBx, hbx, e8⟩ := ha.t
    obtain rfl : x8 = _ := e8
    obtain rfl : df = _ := ha.d
    have hok : OkT x := HOK.out x (hlen.subset (by simp))
    have hVz := hmm.c.z
    have hBxl : Bx < V.heap.size := (Array.getElem?_eq_some_iff.1 hbx).1
    have t0 : V.cell? ⟨Bx, 0, none⟩ = some (.int .i64 x.kind) := cell_blk hbx rfl
    have t1 : V.cell? ⟨Bx, 1, none⟩ = some (.int .i64 x.fr) := cell_blk hbx rfl
    have t2 : V.cell? ⟨Bx, 2, none⟩ = some (.int .i64 x.to) := cell_blk hbx rfl
    have t3 : V.cell? ⟨Bx, 3, none⟩ = some (.int .i64 x.time) := cell_blk hbx rfl
    have m7 : V.cell? ⟨B1 + 1 + 1 + 1, 0, none⟩ = some (.map (some (B1 + 1 + 1))) := cell_blk hmm.c.p rfl
    have g7 : B1 + 1 + 1 + 1 < V.heap.size := by omega
    have g6 : B1 + 1 + 1 < V.heap.size := by omega
    have g5 : B1 + 1 < V.heap.size := by omega
    have g4 : B1 < V.heap.size := by omega
    have hk2 : ((V.drew.alloc (.cells #[.int .i64 x.kind, .int .i64 x.fr, .int .i64 x.to, .int .i64 0] 49)).alloc (.cells #[.int .i64 x.kind, .int .i64 x.fr, .int .i64 x.to, .int .i64 0] 49)).heap[B1 + 1 + 1]? = V.heap[B1 + 1 + 1]? := (Below.heap_alloc _ _ _ (by rw [World.size_alloc]; show _ < V.heap.size + 1; omega)).trans (Below.heap_alloc _ _ _ (by show _ < V.heap.size; omega))
    have hlk := look_t (V' := (V.drew.alloc (.cells #[.int .i64 x.kind, .int .i64 x.fr, .int .i64 x.to, .int .i64 0] 49)).alloc (.cells #[.int .i64 x.kind, .int .i64 x.fr, .int .i64 x.to, .int .i64 0] 49)) hmm hk2 hok
    have hlk2 := look_t (V' := ((V.alloc (.cells #[.int .i64 x.kind, .int .i64 x.fr, .int .i64 x.to, .int .i64 0] 49)).alloc (.cells #[.int .i64 x.kind, .int .i64 x.fr, .int .i64 x.to, .int .i64 0] 49)).drew) hmm hk2 hok
    clear hk2
    have HF := Lib.hid hf
    have HMM := Lib.hid hmm
    have HBX := Lib.hid hbx
    have HOX := Lib.hid hok
    clear hf hmm ha hlen hbx hok
    gi_upto_region 8 with fail
    gi_cut [9, 10] from 24 (fun s9 s10 wc => s9 = .int .i64 ((dT l x : Nat) : Int) ∧ s10 = .bool (hasT_ l x) ∧ wc = (V.drew.alloc (.cells #[.int .i64 x.kind, .int .i64 x.fr, .int .i64 x.to, .int .i64 0] 49)).alloc (.cells #[.int .i64 x.kind, .int .i64 x.fr, .int .i64 x.to, .int .i64 0] 49))
    case first =>
      rename_i J K' hJ hK'
      refine wpIn_never ?_
      gi_region_with_o (refine ⟨trivial, ?_⟩; gi_at_call 50; refine (CallsIn.inRound lp (callsIn_wide.2 (ttimeless_any x _))).mono ?_; rintro e w' ⟨rfl, rfl⟩)
      all_goals (first | (refine hK' _ _ (Met.intro (hJ _ _ ?_))) | (refine Met.intro (hJ _ _ ?_)) | (refine hJ _ _ ?_))
      all_goals (repeat apply Exists.intro)
      all_goals exact ⟨⟨rfl, rfl, rfl⟩, rfl⟩
    case rest =>
      obtain ⟨rfl, rfl, hwc⟩ := hcut
      have hVw : Below V.heap.size V wc := by rw [hwc]; exact ((Below.refl _ V).drew.alloc (Nat.le_refl _) _).alloc (by rw [World.size_alloc]; exact Nat.le_succ _) _
      clear hlk hlk2 t0 t1 t2 t3 m7 hwc
      have hws := hVw.size
      have hmc := HMM.out.below hVw (by omega)
      have hbx := (hVw.block _ hBxl).trans HBX.out
      have HVW := Lib.hid hVw
      have hbx0 := hbx
      have HMC := Lib.hid hmc
      have t0 : wc.cell? ⟨Bx, 0, none⟩ = some (.int .i64 x.kind) := cell_blk hbx rfl
      have t1 : wc.cell? ⟨Bx, 1, none⟩ = some (.int .i64 x.fr) := cell_blk hbx rfl
      have t2 : wc.cell? ⟨Bx, 2, none⟩ = some (.int .i64 x.to) := cell_blk hbx rfl
      have t3 : wc.cell? ⟨Bx, 3, none⟩ = some (.int .i64 x.time) := cell_blk hbx rfl
      have m7 : wc.cell? ⟨B1 + 1 + 1 + 1, 0, none⟩ = some (.map (some (B1 + 1 + 1))) := cell_blk hmc.c.p rfl
      obtain ⟨v, hv, hov⟩ := hmc.v
      obtain ⟨va, vc, rfl⟩ := own_slice hov
      have l6 : wc.cell? ⟨B1 + 1, 0, none⟩ = some (.slice va l.length vc) := cell_blk hv rfl
      have h7 : B1 + 1 + 1 + 1 < wc.heap.size := by omega
      have h6 : B1 + 1 + 1 < wc.heap.size := by omega
      have h5 : B1 + 1 < wc.heap.size := by omega
      have h4 : B1 < wc.heap.size := by omega
      have hx1 : Bx < wc.heap.size := by omega
      have HL : Hid (l.length ≤ 8000) := Lib.hid hmc.n
      have hgV := g5
      clear hVw g7 g6 g5 g4 hBxl HMM HBX hmc hbx hVz hws
      cases hh : hasT_ l x with
      | true =>
        have hat := atT_lt hh
        have hdt : dT l x = atT l x := by unfold dT; rw [if_pos hh]
        obtain ⟨gb, rfl⟩ : ∃ gb, va = some ⟨gb, 0, none⟩ := by
          rcases hov.2 with ⟨_, h0⟩ | ⟨gb, _, _, e, _⟩
          · omega
          · injection e with e1; exact ⟨gb, e1⟩
        have hgx : wc.cell? ⟨gb, atT l x * 4 + 3, none⟩ = some (.int .i64 l[atT l x]!.time) := by
          have h1 := hov.cellAt (atT l x * 4 + 3) (by omega)
          rw [flat_at tiC 4 (fun _ => rfl) l (atT l x) hat 3 (by omega)] at h1
          exact h1
        have hfz : wc.frozen? ⟨gb, atT l x * 4 + 3, none⟩ = false := hov.frozenAt _
        have hgl : gb < wc.heap.size := (hov.lt gb rfl).2
        have HT := Lib.hid (MM.turn (HMC.out.below (Below.refl _ wc).drew (by omega)) (by omega) hh (show wc.drew.heap[B1 + 1]? = _ from hv))
        have HSN : Hid (foldT [] (pre ++ [x]) = some (l.set (atT l x) (strT l[atT l x]! x))) := Lib.hid (by rw [foldT_snoc, HF.out]; show stepT l x = _; unfold stepT; rw [if_pos hh])
        clear hv hov HF HL
        rw [hdt]
        clear hdt
        generalize atT l x = n at *
        generalize l[n]!.time = tm at *
        have hn0 : (0 : Int) ≤ (n : Int) := Int.natCast_nonneg _
        have hn1 : (n : Int) < (l.length : Int) := by omega
        gi_upto_region 12 with fail
        refine wpIn_mono (Q := Exit.then (fun _ W' => W' = wc.drew.setCell ⟨gb, n * 4 + 3, none⟩ (.int .i64 (strI x.kind tm x.time))) (fun _ _ _ => False)) ?reg ?aft
        case reg =>
          clear HT HSN HMC HVW HOX hh H80 HOK HI HZ HCAP HM HB0 HM0 HG0 hz0 hw1 hBx
          refine wpIn_round_still_tail 12 hmx (by kernel_rfl) (by kernel_rfl) ?_
          simp only [List.take_succ_cons, List.take_zero, List.drop_succ_cons, List.drop_zero]
          have HS := Lib.hid ((stricter_any x.kind tm x.time wc.drew).mono (fun e w' (h : e = .returned (.int .i64 (strI x.kind tm x.time)) ∧ wc.drew = w') => show e = .returned (.int .i64 (strI x.kind tm x.time)) ∧ w' = wc.drew from ⟨h.1, h.2.symm⟩))
          iterate 11 still_step
          still_call HS.out
          refine wpStill_nil ?_
          go_wp2
          rfl
        case aft =>
          rintro e a' W' hp
          cases e with
          | normal =>
            obtain rfl : W' = _ := hp
            gi_wp2
            exact ⟨(keeps_below HVW.out.drew).trans ((HT.out.2.2).from _), fun m => (Kq.below hgV HVW.out.drew).trans (HT.out.2.1.all m), _, HSN.out, HT.out.1⟩
          | exit id => exact hp.elim
          | goto t => exact hp.elim
          | ret => exact hp.elim
          | panic ch => exact hp.elim
          | outgrown => exact hp.elim
      | false =>
        have hdt : dT l x = 0 := by unfold dT; rw [hh]; rfl
        rw [hdt]
        clear hdt
        by_cases h8 : l.length = 8000
        · have h8i : (((l.length : Nat) : Int) == 8000) = true := by rw [h8]; rfl
          have c0 : wc.cell? ⟨w.heap.size + 1, 0, none⟩ = some (.slice none 0 0) := cell_blk HMC.out.c.r1 rfl
          have c1 : wc.cell? ⟨w.heap.size + 1, 1, none⟩ = some (.slice none 0 0) := cell_blk HMC.out.c.r1 rfl
          have c2 : wc.cell? ⟨w.heap.size + 1 + 1, 0, none⟩ = some (.int .i64 0) := cell_blk HMC.out.c.r2 rfl
          have f0 := frozen_blk (i := 0) HMC.out.c.r1
          have f1 := frozen_blk (i := 1) HMC.out.c.r1
          have f2 := frozen_blk (i := 0) HMC.out.c.r2
          have HT := Lib.hid HMC.out.many
          have HSN : Hid (foldT [] (pre ++ [x]) = none) := Lib.hid (by rw [foldT_snoc, HF.out]; show stepT l x = _; unfold stepT; rw [if_neg (by rw [hh]; decide), if_pos h8])
          clear hv hov HF HL h8
          gi_wp2
          exact ⟨(keeps_below HVW.out).trans ((((KeepsOthers.setCell _ _ _).trans (KeepsOthers.setCell _ _ _)).trans (KeepsOthers.setCell _ _ _)).from _), rfl, HSN.out, HT.out⟩
        · have h8i : (((l.length : Nat) : Int) == 8000) = false := beq_eq_false_iff_ne.2 (by omega)
          obtain ⟨wb, rfl⟩ : ∃ wb, wb = wc := ⟨_, rfl⟩
          have hl8 := HL.out
          have HV := Lib.hid hv
          have HOV := Lib.hid hov
          have HTX := Lib.hid hbx0
          obtain ⟨D, hown, hfD⟩ := HMC.out.m
          obtain ⟨w5, hrun1, hown1, hgrow1⟩ := World.ownsMap.update (w := ((wb.alloc (.cells #[.int .i64 x.kind, .int .i64 x.fr, .int .i64 x.to, .int .i64 0] 49)).alloc (.cells #[.int .i64 x.kind, .int .i64 x.fr, .int .i64 x.to, .int .i64 0] 49)).drew) (val := .int .i64 ((l.length : Nat) : Int)) (((hown.alloc _).alloc _).drew) lawT Try.underlying47 (by unfold maxLen; omega) (keyT HOX.out) (plainElem_int Try.underlying3 (WalkArith.wf_i64 (by omega)))
          have hrun2 : (Instr.mapUpdate 47 (.map (some (B1 + 1 + 1))) (.agg #[.int .i64 x.kind, .int .i64 x.fr, .int .i64 x.to, .int .i64 0]) (.int .i64 ((l.length : Nat) : Int))).run Try.prog ((wb.drew.alloc (.cells #[.int .i64 x.kind, .int .i64 x.fr, .int .i64 x.to, .int .i64 0] 49)).alloc (.cells #[.int .i64 x.kind, .int .i64 x.fr, .int .i64 x.to, .int .i64 0] 49)) = .ok () w5 := hrun1
          have HM5 := Lib.hid (MapFn.of_own (i := l.length) hfD hown.isMap (lawT.key (keyT HOX.out)) hown1)
          have HG5 := Lib.hid hgrow1
          have hVd : Below wb.heap.size wb ((wb.alloc (.cells #[.int .i64 x.kind, .int .i64 x.fr, .int .i64 x.to, .int .i64 0] 49)).alloc (.cells #[.int .i64 x.kind, .int .i64 x.fr, .int .i64 x.to, .int .i64 0] 49)).drew := (((Below.refl _ wb).alloc (Nat.le_refl _) _).alloc (by rw [World.size_alloc]; exact Nat.le_succ _) _).drew
          have HVD := Lib.hid hVd
          have HMD := Lib.hid (HMC.out.below hVd (by omega))
          have hds := hVd.size
          clear hown hfD hown1 hgrow1 hv hov hVd
          gi_upto_region 9 with fail
          gi_cut [] from 31 (fun wd => wd = w5)
          case first =>
            rename_i J K' hJ hK'
            refine wpIn_never ?_
            gi_region_with_o (refine ⟨trivial, ?_⟩; gi_at_call 50; refine (CallsIn.inRound lp (callsIn_wide.2 (ttimeless_any x _))).mono ?_; rintro e w' ⟨rfl, rfl⟩)
            all_goals (first | (refine hK' _ _ (Met.intro (hJ _ _ ?_))) | (refine Met.intro (hJ _ _ ?_)) | (refine hJ _ _ ?_))
            all_goals (repeat apply Exists.intro)
            all_goals exact ⟨rfl, rfl⟩
          case rest =>
            obtain rfl := hcut
            have hvD : ((wb.alloc (.cells #[.int .i64 x.kind, .int .i64 x.fr, .int .i64 x.to, .int .i64 0] 49)).alloc (.cells #[.int .i64 x.kind, .int .i64 x.fr, .int .i64 x.to, .int .i64 0] 49)).drew.heap[B1 + 1]? = some (.cells #[.slice va l.length vc] 30 (0, 0)) := (HVD.out.block _ h5).trans HV.out
            have hz5 := HG5.out.size
            have hv5 : wc.heap[B1 + 1]? = some (.cells #[.slice va l.length vc] 30 (0, 0)) := (HG5.out.block _ (by omega) (fun e => absurd (Option.some.inj e) (by omega))).trans hvD
            have ht5 : wc.heap[Bx]? = some (.cells #[.int .i64 x.kind, .int .i64 x.fr, .int .i64 x.to, .int .i64 x.time] 49 (0, 0)) := (HG5.out.block _ (by omega) (fun e => absurd (Option.some.inj e) (by omega))).trans ((HVD.out.block _ hx1).trans HTX.out)
            have HOV5 := Lib.hid ((own_below HOV.out HVD.out).kept HG5.out (.inr (fun e => absurd (HOV.out.lt (B1 + 1 + 1) e).1 (by omega))))
            have y6 : wc.cell? ⟨B1 + 1, 0, none⟩ = some (.slice va l.length vc) := cell_blk hv5 rfl
            have y0 : wc.cell? ⟨Bx, 0, none⟩ = some (.int .i64 x.kind) := cell_blk ht5 rfl
            have y1 : wc.cell? ⟨Bx, 1, none⟩ = some (.int .i64 x.fr) := cell_blk ht5 rfl
            have y2 : wc.cell? ⟨Bx, 2, none⟩ = some (.int .i64 x.to) := cell_blk ht5 rfl
            have y3 : wc.cell? ⟨Bx, 3, none⟩ = some (.int .i64 x.time) := cell_blk ht5 rfl
            have HV5 := Lib.hid hv5
            obtain ⟨i0, hi0, hi1, hi2, hi3⟩ := info_parts info_ti
            have HSN : Hid (foldT [] (pre ++ [x]) = some (l ++ [x])) := Lib.hid (by rw [foldT_snoc, HF.out]; show stepT l x = _; unfold stepT; rw [if_neg (by rw [hh]; decide), if_neg h8])
            have g5 : B1 + 1 < wc.heap.size := by omega
            clear hv5 ht5 hrun1 hrun2 t0 t1 t2 t3 m7 l6 hbx0
            gi_wp2_with (gi_at_builtin; refine wpListIn_append_own_at _ rfl (.tmp 36) (.tmp 38) 30 rfl (B1 + 5) 49 i0 _ 4 32 Try.underlying30 hi0 hi1 hi2 hi3 rfl (by omega) _ _ _ rfl (HOV5.out.alloc _) ⟨wc.heap.size, 0, none⟩ 1 1 (tiC x) rfl rfl ?c1 ?c2 ?c3 ?c4 ?c5 ?_)
            case c1 =>
              intro j u hj
              have hn := heap_new wc (.cells #[.int .i64 x.kind, .int .i64 x.fr, .int .i64 x.to, .int .i64 x.time] 49)
              match j, hj with
              | 0, hj => cases hj; exact cell_blk hn rfl
              | 1, hj => cases hj; exact cell_blk hn rfl
              | 2, hj => cases hj; exact cell_blk hn rfl
              | 3, hj => cases hj; exact cell_blk hn rfl
            case c2 => intro u hu; simp [tiC] at hu; rcases hu with rfl | rfl | rfl | rfl <;> rfl
            case c3 => unfold maxLen; omega
            case c4 => omega
            case c5 => rw [World.size_alloc]; omega
            intro v' w6 hown' hgrow _ hat
            obtain ⟨va', vc', rfl⟩ := own_slice hown'
            have hz6 := hgrow.size
            rw [World.size_alloc] at hz6
            have hv6 : w6.heap[B1 + 1]? = some (.cells #[.slice va l.length vc] 30 (0, 0)) := (hgrow.block _ (by rw [World.size_alloc]; omega) (fun e => absurd (HOV.out.lt (B1 + 1) e.symm).1 (by omega))).trans ((Below.heap_alloc _ _ _ g5).trans HV5.out)
            have z6 : w6.cell? ⟨B1 + 1, 0, none⟩ = some (.slice va l.length vc) := cell_blk hv6 rfl
            have zf := frozen_blk (i := 0) hv6
            have HT := Lib.hid (MM.add HMD.out (by omega) HOX.out hh (by omega) hvD HM5.out HG5.out hown' hgrow (by rw [World.size_alloc]; exact hat))
            clear hown' hgrow hat hv6 hvD
            gi_wp2
            exact ⟨(keeps_below HVW.out).trans ((keeps_below HVD.out).trans (keeps_mono HT.out.2.2 (by omega))), fun m => ((Kq.below hgV HVW.out).trans (Kq.below h5 HVD.out)).trans (HT.out.2.1.all m), _, HSN.out, HT.out.1⟩
  case done =>
    rintro D W hD ⟨l, hf, hmm⟩ hK
    have HF := Lib.hid hf
    have HMM := Lib.hid hmm
    have HK := Lib.hid hK
    have hWz := hmm.c.z
    obtain ⟨v2, hv2, ho2⟩ := hmm.v
    obtain ⟨a2, k2, rfl⟩ := own_slice ho2
    have c1 : W.cell? ⟨w.heap.size, 1, none⟩ = some (.slice g.ea g.es.length g.ec) := cell_blk hmm.c.gb rfl
    have c6 : W.cell? ⟨B1 + 1, 0, none⟩ = some (.slice a2 l.length k2) := cell_blk hv2 rfl
    have HV2 := Lib.hid hv2
    have C := Lib.hid (clone_ev g.ea g.ec g.es W.drew ((HI.out.below (B := w.heap.size) (Nat.le_refl _) hmm.c.b.drew).es) HZ.out.es)
    clear hf hmm hK hv2 ho2
    gi_wp2_with fail
    have H3 : ∀ w3, Below W.drew.heap.size W.drew w3 → Hid (MM w g B1 l w3) := fun w3 hb => Lib.hid (HMM.out.below ((Below.refl _ W).drew.trans (hb.mono (Nat.le_refl _))) (by omega))
    refine wpIn_never ?_
    gi_region_with_o (refine ⟨trivial, ?_⟩; gi_at_call 52; refine (callsIn_wide.2 C.out).mono ?_; rintro e w3 ⟨v1, rfl, ho1, hb3⟩; obtain ⟨a1, k1, rfl⟩ := own_slice ho1; have y6 : w3.cell? ⟨B1 + 1, 0, none⟩ = some (.slice a2 l.length k2) := cell_blk ((hb3.block (B1 + 1) (by show _ < W.heap.size; omega)).trans HV2.out) rfl; have z0 : w3.cell? ⟨w.heap.size + 1, 0, none⟩ = some (.slice none 0 0) := cell_blk (H3 w3 hb3).out.c.r1 rfl; have z1 : w3.cell? ⟨w.heap.size + 1, 1, none⟩ = some (.slice none 0 0) := cell_blk (H3 w3 hb3).out.c.r1 rfl; have z2 : w3.cell? ⟨w.heap.size + 1 + 1, 0, none⟩ = some (.int .i64 0) := cell_blk (H3 w3 hb3).out.c.r2 rfl; have y0 := frozen_blk (i := 0) (H3 w3 hb3).out.c.r1; have y1 := frozen_blk (i := 1) (H3 w3 hb3).out.c.r1; have y2 := frozen_blk (i := 0) (H3 w3 hb3).out.c.r2)
    all_goals gi_wp2
    all_goals
      have hDl : D < W.heap.size := (Array.getElem?_eq_some_iff.1 HK.out).1
      obtain ⟨_, _, _, k4, _⟩ := end_of (H3 w3 hb3).out.c.b (H3 w3 hb3).out.c.r1 (H3 w3 hb3).out.c.r2 (.slice a1 g.es.length k1) (.slice a2 l.length k2) (.int .i64 0)
      have hd := (k4 D (by omega) (by omega)).trans ((hb3.block D hDl).trans HK.out)
      have hmd := (H3 w3 hb3).out.done (by omega) ((hb3.block (B1 + 1) (by show _ < W.heap.size; omega)).trans HV2.out) ho1 (by show B1 + 5 ≤ W.heap.size; omega)
      refine leave_marks (MD.own (β := Unit) (by omega)) () ?_ [D] _ (by simp) ?_ hmd
      · intro W' h
        refine ⟨_, res_two rfl rfl rfl h.r1 h.r2, h.b, ?_, ?_⟩
        · intro hn
          exact absurd (HF.out.symm.trans hn) (by simp)
        · intro l' hl'
          obtain rfl : l = l' := Option.some.inj (HF.out.symm.trans hl')
          exact ⟨HMM.out.n, HMM.out.ok, _, _, rfl, h.o1, h.o2⟩
      · intro D' hD'
        rw [List.mem_singleton] at hD'
        subst hD'
        exact ⟨by omega, hd⟩
  case stop =>
    rintro D c pre W hD hpre ⟨rfl, hf, hx⟩ hK
    have HN := Lib.hid (foldT_pre hpre hf)
    gi_wp2
    refine leave_marks (MX.own (β := Unit) (by omega)) () (fun W' h => ⟨_, res_two rfl rfl rfl h.r1 h.r2, h.b, fun _ => rfl, fun l hl => absurd (HN.out.symm.trans hl) (by simp)⟩) [D] W (by simp) (fun D' hD' => by
      rw [List.mem_singleton] at hD'; subst hD'; exact ⟨by omega, hK⟩) hx

/-- What Make tells: the ties, or what is wrong. -/
def makeE (g : Gr) : Int := if (checkL g).2.2 = 0 then (match foldT [] (toldL g g.rs.length) with | some _ => 0 | none => 4) else ((checkL g).2.2 : Nat)
end Go.Proofs.Ytplplkchibefjaa
