/-
  Contract of the document's own Make of a flat graph. Contract of the document's own Make of a flat graph: the walk.
-/
import Derived.Test.YtplplkchibefjaaF4d
import Derived.Test.YtplplkchibefjaaF4a
import Derived.Test.YtplplkchibefjaaDocC
import Derived.Deep.RegionHeld3
import Derived.Deep.DeepCutAuto
import Derived.Laws.AppendOwnNone
import Derived.Test.YtplplkchibefjaaRgt
namespace Go.Proofs.Ytplplkchibefjaa.P4
open Go.RowKit Go.Shelf

theorem grown_refl' (w : World) (r : Option Nat) : w.grownBy w r := by constructor <;> simp
/-- append of a row that came in, nil or not. -/
theorem append_row {P : Program} {w : World} {ops : Array Oper} {rest : List Oper} {o : Oper} {a : Act} {Q : Exit → Act → World → Prop} (hgd : o.guard = none) (s x : Operand) (t : TypeId)
    (ho : o.op = .call { callee := .builtin .append, args := #[s, x], argTypes := #[t, t] })
    (base : Nat) (e : TypeId) (i : TypeInfo) (z : Value) (size bytes : Nat) (ht : P.underlying t = some (.slice e)) (hi : P.info? e = some i) (hz : i.zero = some z)
    (hsize : i.size = size) (hby : i.bytes = bytes) (hzs : z.cells.size = size) (hsz : 0 < size)
    (v : Value) (n : Nat) (xs : List Value) (hs : a.eval s = v) (hown : w.ownsRow base e size v n xs)
    (A : Option Addr) (m c : Nat) (news : List Value) (hx : a.eval x = .slice A m c) (hA : A = none → m = 0 ∧ c = 0) (hl : news.length = m * size) (hnews : Row w A news) (h1 : ∀ u ∈ news, u.oneCell' = true)
    (h63 : n + m ≤ maxLen) (hbytes : (n + m) * bytes ≤ 140737488355328) (hbase : base ≤ w.heap.size)
    (h : ∀ v' w', w'.ownsRow base e size v' (n + m) (xs ++ news) → w.grownBy w' v.ownBlock → wpList P ops Q rest (a.put o.dst v') w') : wpList P ops Q (o :: rest) a w := by
  cases A with
  | none =>
    obtain ⟨rfl, rfl⟩ := hA rfl
    have e0 : news = [] := List.length_eq_zero_iff.1 (by rw [hl, Nat.zero_mul])
    subst e0
    exact wpList_append_own_none hgd s x t ho base e i size ht hi v n xs hs hown hx (h v w (by rw [List.append_nil]; exact hown) (grown_refl' _ _))
  | some ad =>
    refine wpList_append_own w hgd s x t ho base e i z size bytes ht hi hz hsize hby hzs hsz v n xs hs hown ad m c news hx hl (fun j u hj => ?_) h1 h63 hbytes hbase (fun v' w' q1 q2 _ => h v' w' q1 q2)
    obtain ⟨b, off, e1, _, hc⟩ := hnews (fun e => by rw [e] at hj; cases hj)
    injection e1 with e1
    rw [e1, Addr.add_lit]
    exact hc j u hj
/-- The boxes of Make: the graph, the answer, what is made. -/
structure MF (w : World) (g : Gr) (F : Nat) (ve vt : Value) (ts : List Ti) (W : World) : Prop where
  b : Below w.heap.size w W
  gg : W.heap[w.heap.size]? = some (.cells #[.slice g.ga g.gs.length g.gc, .slice g.ea g.es.length g.ec, .slice g.ra g.rs.length g.rc, .slice g.ua g.us.length g.uc] 27 (0, 0))
  r : W.heap[w.heap.size + 1]? = some (.cells #[.slice none 0 0, .slice none 0 0] 38 (0, 0))
  f : W.heap[F]? = some (.cells #[ve, vt] 38 (0, 0))
  z : w.heap.size + 1 < F
  e : W.ownsRow w.heap.size 46 6 ve g.es.length (g.es.flatMap evC)
  t : W.ownsRow w.heap.size 101 4 vt ts.length (ts.flatMap tiC)
/-- A relation's box, and two lists of places. -/
structure MS (w : World) (R : Nat) (x : Rl) (va vb : Value) (a b : List Nat) (W : World) : Prop where
  x : W.heap[R]? = some (.cells #[.int .i64 x.kind, .string x.src, .string x.dst, .int .i64 x.time] 53 (0, 0))
  p : W.ownsRow w.heap.size 3 1 va a.length (intC a)
  q : W.ownsRow w.heap.size 3 1 vb b.length (intC b)
section
variable {w W W' : World} {g : Gr} {F R : Nat} {ve vt va vb : Value} {ts : List Ti} {x : Rl} {a b : List Nat}
theorem MF.lt (h : MF w g F ve vt ts W) : F < W.heap.size := (Array.getElem?_eq_some_iff.1 h.f).1
theorem MF.call (h : MF w g F ve vt ts W) (hb : Below W.heap.size W W') : MF w g F ve vt ts W' :=
  ⟨h.b.trans (hb.mono h.b.size), blk_call h.gg hb, blk_call h.r hb, blk_call h.f hb, h.z, own_below h.e hb, own_below h.t hb⟩
theorem MF.alloc (h : MF w g F ve vt ts W) (o : Obj) : MF w g F ve vt ts (W.alloc o) := h.call ((Below.refl _ _).alloc (Nat.le_refl _) _)
theorem MF.drew (h : MF w g F ve vt ts W) : MF w g F ve vt ts W.drew := h.call ⟨rfl, rfl, rfl, Nat.le_refl _, fun _ _ => rfl⟩
theorem MF.cells (h : MF w g F ve vt ts W) : W.cell? ⟨w.heap.size, 0, none⟩ = some (.slice g.ga g.gs.length g.gc) ∧ W.cell? ⟨w.heap.size, 1, none⟩ = some (.slice g.ea g.es.length g.ec) ∧ W.cell? ⟨w.heap.size, 2, none⟩ = some (.slice g.ra g.rs.length g.rc) ∧ W.cell? ⟨w.heap.size, 3, none⟩ = some (.slice g.ua g.us.length g.uc) ∧ w.heap.size < W.heap.size :=
  ⟨cell_blk h.gg rfl, cell_blk h.gg rfl, cell_blk h.gg rfl, cell_blk h.gg rfl, (Array.getElem?_eq_some_iff.1 h.gg).1⟩
theorem MS.call (h : MS w R x va vb a b W) (hb : Below W.heap.size W W') : MS w R x va vb a b W' := ⟨blk_call h.x hb, own_below h.p hb, own_below h.q hb⟩
theorem ms_drew (h : MS w R x va vb a b W) : MS w R x va vb a b W.drew := h.call ⟨rfl, rfl, rfl, Nat.le_refl _, fun _ _ => rfl⟩
/-- Behind add, and behind its store. -/
theorem MF.put {v' : Value} {ts' : List Ti} (h : MF w g F ve vt ts W) (hs : MS w R x va vb a b W) (hg : W.grownBy W' vt.ownBlock) (hv : W'.ownsRow w.heap.size 101 4 v' ts'.length (ts'.flatMap tiC)) :
    (MF w g F ve v' ts' (W'.setCell ⟨F, 1, none⟩ v') ∧ MS w R x va vb a b (W'.setCell ⟨F, 1, none⟩ v')) ∧ W'.cell? ⟨F, 1, none⟩ = some vt ∧ W'.frozen? ⟨F, 1, none⟩ = false ∧ F < W'.heap.size ∧ MS w R x va vb a b W' := by
  have hl := h.lt
  have hz := h.z
  have k : ∀ j (cs : Array Value) (T : TypeId), W.heap[j]? = some (Obj.cells cs T (0, 0)) → (101 : TypeId) ≠ T → W'.heap[j]? = some (Obj.cells cs T (0, 0)) := fun j cs T hj hT =>
    (hg.block j (Array.getElem?_eq_some_iff.1 hj).1 (fun e => Go.Proofs.Ytplplkchibefjaa.B.own_far h.t hj hT e.symm)).trans hj
  have kg := k _ _ _ h.gg (by decide)
  have kr := k _ _ _ h.r (by decide)
  have kf := k _ _ _ h.f (by decide)
  have kx := k _ _ _ hs.x (by decide)
  have ke := F4.own_kept h.e h.t (by decide) hg
  have kp := F4.own_kept hs.p h.t (by decide) hg
  have kq := F4.own_kept hs.q h.t (by decide) hg
  have far : ∀ {B e z n : Nat} {v : Value} {xs : List Value}, W'.ownsRow B e z v n xs → e ≠ 38 → (W'.setCell ⟨F, 1, none⟩ v').ownsRow B e z v n xs := fun ho he => Go.Proofs.Ytplplkchibefjaa.B.own_set ho (Go.Proofs.Ytplplkchibefjaa.B.own_far ho kf he) _
  have xr : R ≠ F := fun e => by rw [e, kf] at kx; simp at kx
  refine ⟨⟨⟨(h.b.grown hg h.b.size (fun j hj => (h.t.lt j hj).1)).setCell (p := ⟨F, 1, none⟩) (by show w.heap.size ≤ F; omega) v', ?_, ?_, ?_, hz, far ke (by decide), far hv (by decide)⟩, ?_, far kp (by decide), far kq (by decide)⟩, cell_blk kf rfl, Go.Proofs.Ytplplkchibefjaa.B.frozen_blk kf, (Array.getElem?_eq_some_iff.1 kf).1, kx, kp, kq⟩
  · rw [Go.Proofs.Ytplplkchibefjaa.B.blk_other (by omega)]; exact kg
  · rw [Go.Proofs.Ytplplkchibefjaa.B.blk_other (by omega)]; exact kr
  · rw [Go.Proofs.Ytplplkchibefjaa.B.blk_set kf]; rfl
  · rw [Go.Proofs.Ytplplkchibefjaa.B.blk_other xr]; exact kx
theorem int_place {n c gq : Nat} {L : List Nat} {i : Nat} (h : W.ownsRow w.heap.size 3 1 (.slice (some ⟨gq, 0, none⟩) n c) n (intC L)) (hL : L.length = n) (hi : i < n) : W.cell? ⟨gq, i, none⟩ = some (.int .i64 (L[i]! : Nat)) := by
  refine (h.cellAt i (by omega)).trans ?_
  unfold intC
  rw [List.getElem?_map, List.getElem?_eq_getElem (by omega), getElem!_pos L i (by omega)]; rfl
theorem ms_all {ga gb ca cb i j ia ib : Nat} (hia : a[i]! = ia) (hib : b[j]! = ib) (hi : i < a.length) (hj : j < b.length) (h : MS w R x (.slice (some ⟨ga, 0, none⟩) a.length ca) (.slice (some ⟨gb, 0, none⟩) b.length cb) a b W) :
    MS w R x (.slice (some ⟨ga, 0, none⟩) a.length ca) (.slice (some ⟨gb, 0, none⟩) b.length cb) a b W ∧ W.cell? ⟨R, 0, none⟩ = some (.int .i64 x.kind) ∧ W.cell? ⟨R, 3, none⟩ = some (.int .i64 x.time) ∧ W.cell? ⟨ga, i, none⟩ = some (.int .i64 (ia : Nat)) ∧ W.cell? ⟨gb, j, none⟩ = some (.int .i64 (ib : Nat)) :=
  ⟨h, cell_blk h.x rfl, cell_blk h.x rfl, by rw [← hia]; exact int_place h.p rfl hi, by rw [← hib]; exact int_place h.q rfl hj⟩
end
end Go.Proofs.Ytplplkchibefjaa.P4
namespace Go.Proofs.Ytplplkchibefjaa.P4
open Go.RowKit Go.Shelf

theorem fin_box {w W : World} (hb : Below w.heap.size w W) (hr : W.heap[w.heap.size + 1]? = some (.cells #[.slice none 0 0, .slice none 0 0] 38 (0, 0))) (v0 v1 : Value) :
    ((W.setCell ⟨w.heap.size + 1, 0, none⟩ v0).setCell ⟨w.heap.size + 1, 1, none⟩ v1).heap[w.heap.size + 1]? = some (.cells #[v0, v1] 38 (0, 0)) ∧ Below w.heap.size w ((W.setCell ⟨w.heap.size + 1, 0, none⟩ v0).setCell ⟨w.heap.size + 1, 1, none⟩ v1) ∧
    ∀ {B e z n : Nat} {v : Value} {xs : List Value}, W.ownsRow B e z v n xs → e ≠ 38 → ((W.setCell ⟨w.heap.size + 1, 0, none⟩ v0).setCell ⟨w.heap.size + 1, 1, none⟩ v1).ownsRow B e z v n xs := by
  have b0 : (W.setCell ⟨w.heap.size + 1, 0, none⟩ v0).heap[w.heap.size + 1]? = some (.cells #[v0, .slice none 0 0] 38 (0, 0)) := by rw [Go.Proofs.Ytplplkchibefjaa.B.blk_set hr]; rfl
  have hq : w.heap.size ≤ w.heap.size + 1 := by omega
  refine ⟨by rw [Go.Proofs.Ytplplkchibefjaa.B.blk_set b0]; rfl, (hb.setCell (p := ⟨w.heap.size + 1, 0, none⟩) hq _).setCell (p := ⟨w.heap.size + 1, 1, none⟩) hq _, fun ho he => ?_⟩
  have fe := Go.Proofs.Ytplplkchibefjaa.B.own_far ho hr he
  exact Go.Proofs.Ytplplkchibefjaa.B.own_set (Go.Proofs.Ytplplkchibefjaa.B.own_set ho fe _) fe _
set_option maxRecDepth 100000 in
set_option maxHeartbeats 8000000 in
theorem rmake_any (w : World) (g : Gr) (hI : InG w g) (hz : SzG g) (hec : g.es.length ≤ g.ec) (hea : g.ea = none → g.ec = 0) (hfew : mayL g = true → g.es.length ≤ 30 ∧ g.rs.length ≤ 60) :
    Calls Try.prog 18 #[.agg #[.slice g.ga g.gs.length g.gc, .slice g.ea g.es.length g.ec, .slice g.ra g.rs.length g.rc, .slice g.ua g.us.length g.uc]] w (FEnd w (endE g) (endT g) (endC g)) := by
  obtain ⟨gr, hgr⟩ : ∃ gr, gr = #[Value.slice g.ga g.gs.length g.gc, .slice g.ea g.es.length g.ec, .slice g.ra g.rs.length g.rc, .slice g.ua g.us.length g.uc] := ⟨_, rfl⟩
  obtain ⟨w2, hw2⟩ : ∃ w2, w2 = (w.alloc (.cells gr 27)).alloc (.cells #[.slice none 0 0, .slice none 0 0] 38) := ⟨_, rfl⟩
  have hb2 : Below w.heap.size w w2 := by rw [hw2]; exact ((Below.refl _ _).alloc (Nat.le_refl _) _).alloc (by rw [World.size_alloc]; omega) _
  have g2 : w2.heap[w.heap.size]? = some (.cells gr 27 (0, 0)) := by
    rw [hw2]; exact Go.Proofs.Ytplplkchibefjaa.B.heap_old (by rw [World.size_alloc]; omega) (heap_alloc_new _ _)
  have r2 : w2.heap[w.heap.size + 1]? = some (.cells #[.slice none 0 0, .slice none 0 0] 38 (0, 0)) := by
    have h := heap_alloc_new (w.alloc (.cells gr 27)) (.cells #[.slice none 0 0, .slice none 0 0] 38)
    rw [World.size_alloc] at h
    rw [hw2]; exact h
  subst hgr
  have HI := Lib.hid hI
  have HZ := Lib.hid hz
  have C := Lib.hid (rcheck_any w2 g (hI.below (Nat.le_refl _) hb2) hz)
  obtain ⟨i0, hi, hz0, hz1, hz2⟩ := info_parts F4.info_ev
  have HJ := Lib.hid hi
  have HZ0 := Lib.hid hz0
  have HZ1 := Lib.hid hz1
  have HZ2 := Lib.hid hz2
  have HW2 := Lib.hid hw2
  have HB2 := Lib.hid hb2
  have HG2 := Lib.hid g2
  have HR2 := Lib.hid r2
  have HEC := Lib.hid (And.intro hec hea)
  have zes := hz.es
  clear hI hz hw2 hb2 g2 r2 hi hz0 hz1 hz2 hec hea
  unfold stV at C
  cases hm : mayL g with
  | false =>
    obtain ⟨e1, e2, e3⟩ := end_no hm
    have hne : (checkL g).2.2 ≠ 0 := by unfold mayL at hm; rwa [decide_eq_false_iff_not] at hm
    have HN := fun {w' : World} {c : Int} {e : Ending} (hC : endC g = c) (he : e = .returned (.tuple #[.agg #[.slice none 0 0, .slice none 0 0], .int .i64 c])) (hb : Below w.heap.size w w') => Lib.hid (fend_nil e1 e2 hC he hb)
    have HE3 := Lib.hid e3
    clear hm hfew e1 e2 e3
    generalize (checkL g).1 = k1 at *
    generalize (checkL g).2.1 = k2 at *
    generalize (checkL g).2.2 = k3 at *
    have t1 : (((k3 : Nat) : Int) != 0) = true := by rw [bne_iff_ne]; omega
    go_enter Try.func18, Try.ntmps18
    go_wp2_with fail
    rw [← HW2.out]
    refine C.out.mono ?_
    rintro e w3 ⟨rfl, hb3⟩
    have HB3 := Lib.hid (HB2.out.trans (hb3.mono HB2.out.size))
    have HR3 := Lib.hid (blk_call HR2.out hb3)
    clear hb3 C HB2 HG2 HR2 HW2 hne
    have q0 := Go.Proofs.Ytplplkchibefjaa.B.frozen_blk (i := 0) HR3.out
    have q1 := Go.Proofs.Ytplplkchibefjaa.B.frozen_blk (i := 1) HR3.out
    have r0 : w3.cell? ⟨w.heap.size + 1, 0, none⟩ = some (.slice none 0 0) := cell_blk HR3.out rfl
    have r1 : w3.cell? ⟨w.heap.size + 1, 1, none⟩ = some (.slice none 0 0) := cell_blk HR3.out rfl
    have lr := (Array.getElem?_eq_some_iff.1 HR3.out).1
    go_wp2_with fail
    obtain ⟨f1, f2, _⟩ := fin_box HB3.out HR3.out (.slice none 0 0) (.slice none 0 0)
    obtain ⟨W4, hW4⟩ : ∃ W4, W4 = (w3.setCell ⟨w.heap.size + 1, 0, none⟩ (.slice none 0 0)).setCell ⟨w.heap.size + 1, 1, none⟩ (.slice none 0 0) := ⟨_, rfl⟩
    rw [← hW4] at f1 f2 ⊢
    have z0 : W4.cell? ⟨w.heap.size + 1, 0, none⟩ = some (.slice none 0 0) := cell_blk f1 rfl
    have z1 : W4.cell? ⟨w.heap.size + 1, 1, none⟩ = some (.slice none 0 0) := cell_blk f1 rfl
    clear hW4 f1
    exact bodyPost_ret (v := .tuple #[.agg #[.slice none 0 0, .slice none 0 0], .int .i64 (k3 : Nat)]) (by simp [results, Try.results18, go_sem, z0, z1]) rfl (HN HE3.out rfl f2).out
  | true =>
    obtain ⟨he30, hr60⟩ := hfew hm
    have hzc : (checkL g).2.2 = 0 := by unfold mayL at hm; rwa [decide_eq_true_eq] at hm
    have HM := Lib.hid hm
    have HLen := fun k a b => Lib.hid (T3_len he30 hr60 k a b)
    rw [hzc] at C
    clear hzc hm hfew
    generalize (checkL g).1 = k1 at *
    generalize (checkL g).2.1 = k2 at *
    go_enter Try.func18, Try.ntmps18
    go_wp2_with fail
    rw [← HW2.out]
    refine C.out.mono ?_
    rintro e w3 ⟨rfl, hb3⟩
    have HB3 := Lib.hid (HB2.out.trans (hb3.mono HB2.out.size))
    have HG3 := Lib.hid (blk_call HG2.out hb3)
    have HR3 := Lib.hid (blk_call HR2.out hb3)
    clear hb3 C HB2 HG2 HR2 HW2
    have a1 : w3.cell? ⟨w.heap.size, 1, none⟩ = some (.slice g.ea g.es.length g.ec) := cell_blk HG3.out rfl
    have lr := (Array.getElem?_eq_some_iff.1 HR3.out).1
    have ll0 : w.heap.size < w3.heap.size := by omega
    have hb4 : Below w3.heap.size w3 (w3.alloc (.cells #[] 46)) := (Below.refl _ _).alloc (Nat.le_refl _) _
    have V4 : Hid ((w3.alloc (.cells #[] 46)).ownsRow w.heap.size 46 6 (.slice (some ⟨w3.heap.size, 0, none⟩) 0 0) 0 []) := Lib.hid (F4.own_empty4 (heap_alloc_new _ _) (by omega))
    have HA4 := Lib.hid (HI.out.es.below (Nat.le_refl _) (HB3.out.trans (hb4.mono (by omega))))
    have HFL := Lib.hid (flat_len evC 6 (fun _ => rfl) g.es)
    have HOne := Lib.hid (flat_one F4.one_ev g.es)
    go_wp2_with (at_builtin; refine append_row rfl (.tmp 24) (.tmp 26) 23 rfl w.heap.size 46 i0 _ 6 64 Try.underlying23 HJ.out HZ0.out HZ1.out HZ2.out rfl (by omega) _ _ _ rfl V4.out g.ea g.es.length g.ec (g.es.flatMap evC) rfl ?c0 HFL.out HA4.out HOne.out ?c3 ?c4 ?c5 ?_)
    case c0 => exact fun h => by have h1 := HEC.out.2 h; have h2 := HEC.out.1; omega
    case c3 => unfold maxLen; omega
    case c4 => omega
    case c5 => rw [World.size_alloc]; omega
    intro v' w5 hown hgrow
    replace hown : w5.ownsRow w.heap.size 46 6 v' g.es.length (g.es.flatMap evC) := by simpa using hown
    obtain ⟨EV, ecap, rfl⟩ := own_slice hown
    have hb5 : Below w3.heap.size w3 w5 := hb4.grown hgrow (by rw [World.size_alloc]; omega) (fun j hj => by
      have e0 : some w3.heap.size = some j := hj
      injection e0 with e0; omega)
    have hs5 := hb5.size
    have hb6 : Below w5.heap.size w5 (w5.alloc (.cells #[.slice EV g.es.length ecap, .slice none 0 0] 38)) := (Below.refl _ _).alloc (Nat.le_refl _) _
    have M0 : Hid (MF w g w5.heap.size (.slice EV g.es.length ecap) (.slice none 0 0) (T1 g 0) (w5.alloc (.cells #[.slice EV g.es.length ecap, .slice none 0 0] 38))) := Lib.hid
      ⟨(HB3.out.trans (hb5.mono (by omega))).trans (hb6.mono (by omega)), blk_call (blk_call HG3.out hb5) hb6, blk_call (blk_call HR3.out hb5) hb6, heap_alloc_new _ _, by omega, own_below hown hb6, World.ownsRow_nil _ _ _ _⟩
    obtain ⟨F, hF⟩ : ∃ F, F = w5.heap.size := ⟨_, rfl⟩
    have HF := Lib.hid hF
    rw [← hF] at M0
    clear hF hown hgrow hb4 hb5 hs5 hb6 V4 HA4 HFL HOne HB3 HG3 HR3 a1 lr ll0
    go_wp2_with fail
    rw [← HF.out]
    go_loopw [8] (fun i wr => ∃ (k : Nat) (vt : Value), k ≤ g.rs.length ∧ i = .int .i64 k ∧ Hid (MF w g F (.slice EV g.es.length ecap) vt (T1 g k) wr)) (fun i _ => g.rs.length - (intOf i).toNat)
    case atStart => exact ⟨0, _, Nat.zero_le _, rfl, M0⟩
    case round =>
      clear M0
      obtain ⟨k, vt, hk, rfl, HM1⟩ := hrel
      obtain ⟨a0, a1, a2, a3, ll⟩ := HM1.out.cells
      have lF := HM1.out.lt
      by_cases hlt : k < g.rs.length
      · obtain ⟨b, off, hA, hb, hc⟩ := HI.out.rs.at_ (k := 4) (fun _ => rfl) (by omega) hlt
        have k0 := hc 0 _ rfl
        have k1 := hc 1 _ rfl
        have k2 := hc 2 _ rfl
        have k3 := hc 3 _ rfl
        rw [Nat.add_zero] at k0
        rw [← HM1.out.b.cell (p := ⟨b, _, none⟩) hb] at k0 k1 k2 k3
        have hk0 : (0 : Int) ≤ (k : Int) := Int.natCast_nonneg _
        have hk1 : (k : Int) < (g.rs.length : Int) := by omega
        have hzw := HM1.out.b.size
        have hbz : b < wr.heap.size := by omega
        have E2z := Lib.hid (T2_zero g k)
        have E2a := Lib.hid (T2_all hlt)
        have E3z := fun a => Lib.hid (T3_zero g k a)
        have E3a := fun a h => Lib.hid (T3_all (g := g) (k := k) (a := a) h)
        have E3n := fun a b h => Lib.hid (T3_next (g := g) (k := k) (a := a) (b := b) h)
        have hsl : srcL g k = memL g g.rs[k]!.src := rfl
        have hdl : dstL g k = memL g g.rs[k]!.dst := rfl
        have LA : (srcL g k).length ≤ 31 := by rw [hsl]; have := memL_len g g.rs[k]!.src; omega
        have LB : (dstL g k).length ≤ 31 := by rw [hdl]; have := memL_len g g.rs[k]!.dst; omega
        have hbx : Below wr.heap.size wr (wr.alloc (.cells #[.int .i64 g.rs[k]!.kind, .string g.rs[k]!.src, .string g.rs[k]!.dst, .int .i64 g.rs[k]!.time] 53)) := (Below.refl _ _).alloc (Nat.le_refl _) _
        have C1 := rmembers_any (wr.alloc (.cells #[.int .i64 g.rs[k]!.kind, .string g.rs[k]!.src, .string g.rs[k]!.dst, .int .i64 g.rs[k]!.time] 53)) g g.rs[k]!.src (HI.out.below (Nat.le_refl _) (HM1.out.alloc _).b) HZ.out
        have C2 := fun W (hW : Below w.heap.size w W) => rmembers_any W g g.rs[k]!.dst (HI.out.below (Nat.le_refl _) hW) HZ.out
        rw [← hsl] at C1
        simp only [← hdl] at C2
        clear hsl hdl hc
        generalize srcL g k = A at *
        generalize dstL g k = B at *
        have HM2 := Lib.hid (HM1.out.alloc (.cells #[.int .i64 g.rs[k]!.kind, .string g.rs[k]!.src, .string g.rs[k]!.dst, .int .i64 g.rs[k]!.time] 53))
        have HX2 := Lib.hid (heap_alloc_new wr (.cells #[.int .i64 g.rs[k]!.kind, .string g.rs[k]!.src, .string g.rs[k]!.dst, .int .i64 g.rs[k]!.time] 53))
        clear hbx HM1
        generalize g.rs[k]! = x at *
        rw [hA] at a2 C1
        simp only [hA] at C2
        have HA := Lib.hid hA
        have HC1 := Lib.hid C1
        have HC2 := Lib.hid C2
        clear hA C1 C2
        go_wp2_with fail
        refine HC1.out.mono ?_
        rintro e w6 ⟨va, rfl, oa, hb6⟩
        have HM6 := Lib.hid (HM2.out.call hb6)
        have HX6 := Lib.hid (blk_call HX2.out hb6)
        have HO6 := Lib.hid (own_base oa HM2.out.b.size)
        have D := Lib.hid (HC2.out w6 HM6.out.b)
        clear oa hb6 HM2 HX2 HC1 HC2 a0 a1 a2 a3 ll k0 k1 k2 k3 hbz
        obtain ⟨a0, a1, a2, a3, ll⟩ := HM6.out.cells
        rw [HA.out] at a2
        have x2 : w6.cell? ⟨wr.heap.size, 2, none⟩ = some (.string x.dst) := cell_blk HX6.out rfl
        have lx := (Array.getElem?_eq_some_iff.1 HX6.out).1
        go_wp2_with fail
        refine D.out.mono ?_
        rintro e w7 ⟨vb, rfl, ob, hb7⟩
        have HM7 := Lib.hid (HM6.out.call hb7)
        have HS7 : Hid (MS w wr.heap.size x va vb A B w7) := Lib.hid ⟨blk_call HX6.out hb7, own_below HO6.out hb7, own_base ob HM6.out.b.size⟩
        obtain ⟨PA, ca, rfl⟩ := own_slice HO6.out
        obtain ⟨PB, cb, rfl⟩ := own_slice ob
        obtain ⟨R, hR⟩ : ∃ R, R = wr.heap.size := ⟨_, rfl⟩
        have HRe := Lib.hid hR
        rw [← hR] at HS7
        rw [← E2z.out] at HM7
        clear hR ob hb7 HM6 HX6 HO6 D a0 a1 a2 a3 ll x2 lx lF hzw E2z
        go_wp2_with fail
        rw [← HRe.out]
        obtain ⟨wo, rfl⟩ : ∃ wo : World, wo = wr := ⟨_, rfl⟩
        go_loopw [12] (fun i wr => ∃ (a : Nat) (vt : Value), a ≤ A.length ∧ i = .int .i64 a ∧ Hid (MF w g F (.slice EV g.es.length ecap) vt (T2 g k a) wr) ∧ Hid (MS w R x (.slice PA A.length ca) (.slice PB B.length cb) A B wr)) (fun i _ => A.length - (intOf i).toNat)
        case atStart => exact ⟨0, vt, Nat.zero_le _, rfl, HM7, HS7⟩
        case round =>
          clear HM7 HS7
          obtain ⟨a, vt, ha, rfl, HM, HS⟩ := hrel
          by_cases hlt2 : a < A.length
          · have ha0 : (0 : Int) ≤ (a : Int) := Int.natCast_nonneg _
            have ha1 : (a : Int) < (A.length : Int) := by omega
            rw [← (E3z a).out] at HM
            go_wp2_with fail
            obtain ⟨wo2, rfl⟩ : ∃ wo2 : World, wo2 = wr := ⟨_, rfl⟩
            go_loopw [13] (fun i wr => ∃ (b : Nat) (vt : Value), b ≤ B.length ∧ i = .int .i64 b ∧ Hid (MF w g F (.slice EV g.es.length ecap) vt (T3 g k a b) wr) ∧ Hid (MS w R x (.slice PA A.length ca) (.slice PB B.length cb) A B wr)) (fun i _ => B.length - (intOf i).toNat)
            case atStart => exact ⟨0, vt, Nat.zero_le _, rfl, HM, HS⟩
            case round =>
              clear HM HS
              obtain ⟨b2, vt, hb2, rfl, HM, HS⟩ := hrel
              by_cases hlt3 : b2 < B.length
              · have hb0 : (0 : Int) ≤ (b2 : Int) := Int.natCast_nonneg _
                have hb1 : (b2 : Int) < (B.length : Int) := by omega
                obtain ⟨ga, _, e1, _, _⟩ := Go.Proofs.Ytplplkchibefjaa.B.own_head HS.out.p (by omega)
                injection e1 with e1 _ e1c
                subst e1 e1c
                obtain ⟨gb, _, e2, _, _⟩ := Go.Proofs.Ytplplkchibefjaa.B.own_head HS.out.q (by omega)
                injection e2 with e2 _ e2c
                subst e2 e2c
                obtain ⟨TA, tcap, rfl⟩ := own_slice HM.out.t
                have HN := E3n a b2 hlt3
                obtain ⟨ia, hia⟩ : ∃ ia, A[a]! = ia := ⟨_, rfl⟩
                obtain ⟨ib, hib⟩ : ∃ ib, B[b2]! = ib := ⟨_, rfl⟩
                have HIA := Lib.hid hia
                have HIB := Lib.hid hib
                rw [hia, hib] at HN
                clear hia hib
                have hln := (HLen k a b2).out
                have hMd := HM.out.drew
                have hSd := ms_drew HS.out
                have c1 : wr.drew.cell? ⟨F, 1, none⟩ = some (.slice TA (T3 g k a b2).length tcap) := cell_blk hMd.f rfl
                have lF : F < wr.drew.heap.size := hMd.lt
                have ADD := Lib.hid (radd_any wr.drew w.heap.size (.slice TA (T3 g k a b2).length tcap) (T3 g k a b2) ⟨x.kind, (ia : Nat), (ib : Nat), x.time⟩ hMd.t hMd.b.size (by omega))
                obtain ⟨m0, x0, x3, pa, pb⟩ := ms_all HIA.out HIB.out hlt2 hlt3 hSd
                have hS0 : MS w R x (.slice (some ⟨ga, 0, none⟩) A.length ca) (.slice (some ⟨gb, 0, none⟩) B.length cb) A B wr.drew ∧ wr.drew.cell? ⟨R, 0, none⟩ = some (.int .i64 x.kind) ∧ wr.drew.cell? ⟨R, 3, none⟩ = some (.int .i64 x.time) ∧ wr.drew.cell? ⟨ga, a, none⟩ = some (.int .i64 (ia : Nat)) ∧ wr.drew.cell? ⟨gb, b2, none⟩ = some (.int .i64 (ib : Nat)) ∧ wr.drew.cell? ⟨F, 1, none⟩ = some (.slice TA (T3 g k a b2).length tcap) := ⟨m0, x0, x3, pa, pb, c1⟩
                have HMd := Lib.hid hMd
                have HSd := Lib.hid hSd
                clear hMd hSd m0 x0 x3 pa pb
                go_wp2_with fail
                refine Go.Proofs.Ytplplkchibefjaa.B.wp_region_T (S := fun W => MS w R x (.slice (some ⟨ga, 0, none⟩) A.length ca) (.slice (some ⟨gb, 0, none⟩) B.length cb) A B W ∧ W.cell? ⟨R, 0, none⟩ = some (.int .i64 x.kind) ∧ W.cell? ⟨R, 3, none⟩ = some (.int .i64 x.time) ∧ W.cell? ⟨ga, a, none⟩ = some (.int .i64 (ia : Nat)) ∧ W.cell? ⟨gb, b2, none⟩ = some (.int .i64 (ib : Nat)) ∧ W.cell? ⟨F, 1, none⟩ = some (.slice TA (T3 g k a b2).length tcap)) (z := 17) (by kernel_rfl) ?_
                refine Go.Proofs.Ytplplkchibefjaa.B.anyT_take (i := 0) 15 [1, 0] (v := ?_) rfl (by kernel_rfl) (by kernel_rfl) (by kernel_rfl) (by kernel_rfl) (fun _ _ _ h => h) hS0 (by rfl) ?_ ?_
                rotate_left
                · intro W hSw
                  obtain ⟨_, q0, q1, q2, q3, q4⟩ := hSw
                  go_simp
                  try with_reducible rfl
                simp only [Act.put, List.setIfInBounds_toArray, List.set_cons_zero, List.set_cons_succ, List.getElem_toArray, List.getElem_cons_zero]
                refine Go.Proofs.Ytplplkchibefjaa.B.anyT_take (i := 1) 15 [1] (v := ?_) rfl (by kernel_rfl) (by kernel_rfl) (by kernel_rfl) (by kernel_rfl) (fun _ _ _ h => h) hS0 (by rfl) ?_ ?_
                rotate_left
                · intro W hSw
                  obtain ⟨_, q0, q1, q2, q3, q4⟩ := hSw
                  go_simp
                  try with_reducible rfl
                simp only [Act.put, List.setIfInBounds_toArray, List.set_cons_zero, List.set_cons_succ, List.getElem_toArray, List.getElem_cons_zero, List.getElem_cons_succ]
                refine Go.Proofs.Ytplplkchibefjaa.B.anyT_take (i := 2) 15 [14, 3, 2] (v := ?_) rfl (by kernel_rfl) (by kernel_rfl) (by kernel_rfl) (by kernel_rfl) (fun _ _ _ h => h) hS0 (by rfl) ?_ ?_
                rotate_left
                · intro W hSw
                  obtain ⟨_, q0, q1, q2, q3, q4⟩ := hSw
                  go_simp
                  try with_reducible rfl
                simp only [Act.put, List.setIfInBounds_toArray, List.set_cons_zero, List.set_cons_succ, List.getElem_toArray, List.getElem_cons_zero, List.getElem_cons_succ]
                refine Go.Proofs.Ytplplkchibefjaa.B.anyT_take (i := 3) 15 [14, 3] (v := ?_) rfl (by kernel_rfl) (by kernel_rfl) (by kernel_rfl) (by kernel_rfl) (fun _ _ _ h => h) hS0 (by rfl) ?_ ?_
                rotate_left
                · intro W hSw
                  obtain ⟨_, q0, q1, q2, q3, q4⟩ := hSw
                  go_simp
                  try with_reducible rfl
                simp only [Act.put, List.setIfInBounds_toArray, List.set_cons_zero, List.set_cons_succ, List.getElem_toArray, List.getElem_cons_zero, List.getElem_cons_succ]
                refine Go.Proofs.Ytplplkchibefjaa.B.anyT_take (i := 4) 15 [14, 7, 6, 4] (v := ?_) rfl (by kernel_rfl) (by kernel_rfl) (by kernel_rfl) (by kernel_rfl) (fun _ _ _ h => h) hS0 (by rfl) ?_ ?_
                rotate_left
                · intro W hSw
                  obtain ⟨_, q0, q1, q2, q3, q4⟩ := hSw
                  go_simp
                  try with_reducible rfl
                simp only [Act.put, List.setIfInBounds_toArray, List.set_cons_zero, List.set_cons_succ, List.getElem_toArray, List.getElem_cons_zero, List.getElem_cons_succ]
                refine Go.Proofs.Ytplplkchibefjaa.B.anyT_take (i := 5) 15 [14, 7, 6, 5] (v := ?_) rfl (by kernel_rfl) (by kernel_rfl) (by kernel_rfl) (by kernel_rfl) (fun _ _ _ h => h) hS0 (by rfl) ?_ ?_
                rotate_left
                · intro W hSw
                  obtain ⟨_, q0, q1, q2, q3, q4⟩ := hSw
                  go_simp
                  try with_reducible rfl
                simp only [Act.put, List.setIfInBounds_toArray, List.set_cons_zero, List.set_cons_succ, List.getElem_toArray, List.getElem_cons_zero, List.getElem_cons_succ]
                refine Go.Proofs.Ytplplkchibefjaa.B.anyT_take (i := 6) 15 [14, 7, 6] (v := ?_) rfl (by kernel_rfl) (by kernel_rfl) (by kernel_rfl) (by kernel_rfl) (fun _ _ _ h => h) hS0 (by rfl) ?_ ?_
                rotate_left
                · intro W hSw
                  obtain ⟨_, q0, q1, q2, q3, q4⟩ := hSw
                  go_simp
                  try with_reducible rfl
                simp only [Act.put, List.setIfInBounds_toArray, List.set_cons_zero, List.set_cons_succ, List.getElem_toArray, List.getElem_cons_zero, List.getElem_cons_succ]
                refine Go.Proofs.Ytplplkchibefjaa.B.anyT_take (i := 7) 15 [14, 7] (v := ?_) rfl (by kernel_rfl) (by kernel_rfl) (by kernel_rfl) (by kernel_rfl) (fun _ _ _ h => h) hS0 (by rfl) ?_ ?_
                rotate_left
                · intro W hSw
                  obtain ⟨_, q0, q1, q2, q3, q4⟩ := hSw
                  go_simp
                  try with_reducible rfl
                simp only [Act.put, List.setIfInBounds_toArray, List.set_cons_zero, List.set_cons_succ, List.getElem_toArray, List.getElem_cons_zero, List.getElem_cons_succ]
                refine Go.Proofs.Ytplplkchibefjaa.B.anyT_take (i := 8) 15 [14, 11, 10, 8] (v := ?_) rfl (by kernel_rfl) (by kernel_rfl) (by kernel_rfl) (by kernel_rfl) (fun _ _ _ h => h) hS0 (by rfl) ?_ ?_
                rotate_left
                · intro W hSw
                  obtain ⟨_, q0, q1, q2, q3, q4⟩ := hSw
                  go_simp
                  try with_reducible rfl
                simp only [Act.put, List.setIfInBounds_toArray, List.set_cons_zero, List.set_cons_succ, List.getElem_toArray, List.getElem_cons_zero, List.getElem_cons_succ]
                refine Go.Proofs.Ytplplkchibefjaa.B.anyT_take (i := 9) 15 [14, 11, 10, 9] (v := ?_) rfl (by kernel_rfl) (by kernel_rfl) (by kernel_rfl) (by kernel_rfl) (fun _ _ _ h => h) hS0 (by rfl) ?_ ?_
                rotate_left
                · intro W hSw
                  obtain ⟨_, q0, q1, q2, q3, q4⟩ := hSw
                  go_simp
                  try with_reducible rfl
                simp only [Act.put, List.setIfInBounds_toArray, List.set_cons_zero, List.set_cons_succ, List.getElem_toArray, List.getElem_cons_zero, List.getElem_cons_succ]
                refine Go.Proofs.Ytplplkchibefjaa.B.anyT_take (i := 10) 15 [14, 11, 10] (v := ?_) rfl (by kernel_rfl) (by kernel_rfl) (by kernel_rfl) (by kernel_rfl) (fun _ _ _ h => h) hS0 (by rfl) ?_ ?_
                rotate_left
                · intro W hSw
                  obtain ⟨_, q0, q1, q2, q3, q4⟩ := hSw
                  go_simp
                  try with_reducible rfl
                simp only [Act.put, List.setIfInBounds_toArray, List.set_cons_zero, List.set_cons_succ, List.getElem_toArray, List.getElem_cons_zero, List.getElem_cons_succ]
                refine Go.Proofs.Ytplplkchibefjaa.B.anyT_take (i := 11) 15 [14, 11] (v := ?_) rfl (by kernel_rfl) (by kernel_rfl) (by kernel_rfl) (by kernel_rfl) (fun _ _ _ h => h) hS0 (by rfl) ?_ ?_
                rotate_left
                · intro W hSw
                  obtain ⟨_, q0, q1, q2, q3, q4⟩ := hSw
                  go_simp
                  try with_reducible rfl
                simp only [Act.put, List.setIfInBounds_toArray, List.set_cons_zero, List.set_cons_succ, List.getElem_toArray, List.getElem_cons_zero, List.getElem_cons_succ]
                refine Go.Proofs.Ytplplkchibefjaa.B.anyT_take (i := 12) 15 [14, 13, 12] (v := ?_) rfl (by kernel_rfl) (by kernel_rfl) (by kernel_rfl) (by kernel_rfl) (fun _ _ _ h => h) hS0 (by rfl) ?_ ?_
                rotate_left
                · intro W hSw
                  obtain ⟨_, q0, q1, q2, q3, q4⟩ := hSw
                  go_simp
                  try with_reducible rfl
                simp only [Act.put, List.setIfInBounds_toArray, List.set_cons_zero, List.set_cons_succ, List.getElem_toArray, List.getElem_cons_zero, List.getElem_cons_succ]
                refine Go.Proofs.Ytplplkchibefjaa.B.anyT_take (i := 13) 15 [14, 13] (v := ?_) rfl (by kernel_rfl) (by kernel_rfl) (by kernel_rfl) (by kernel_rfl) (fun _ _ _ h => h) hS0 (by rfl) ?_ ?_
                rotate_left
                · intro W hSw
                  obtain ⟨_, q0, q1, q2, q3, q4⟩ := hSw
                  go_simp
                  try with_reducible rfl
                simp only [Act.put, List.setIfInBounds_toArray, List.set_cons_zero, List.set_cons_succ, List.getElem_toArray, List.getElem_cons_zero, List.getElem_cons_succ]
                refine Go.Proofs.Ytplplkchibefjaa.B.anyT_take (i := 14) 15 [14] (v := ?_) rfl (by kernel_rfl) (by kernel_rfl) (by kernel_rfl) (by kernel_rfl) (fun _ _ _ h => h) hS0 (by rfl) ?_ ?_
                rotate_left
                · intro W hSw
                  obtain ⟨_, q0, q1, q2, q3, q4⟩ := hSw
                  go_simp
                  try with_reducible rfl
                simp only [Act.put, List.setIfInBounds_toArray, List.set_cons_zero, List.set_cons_succ, List.getElem_toArray, List.getElem_cons_zero, List.getElem_cons_succ]
                refine Go.Proofs.Ytplplkchibefjaa.B.anyT_one' (i := 15) (by kernel_rfl) rfl (by rfl) (fun K0 hK0 => ?_)
                have HK0 := Lib.hid hK0
                clear hK0
                unfold Oper.wp
                go_simp
                refine ADD.out.mono ?_
                rintro e w9 ⟨v9, rfl, o9, g9⟩
                obtain ⟨va9, vc9, rfl⟩ := own_slice o9
                obtain ⟨⟨hm9, hs9⟩, y9, f9, l9, hs9'⟩ := MF.put HMd.out HSd.out g9 o9
                dsimp only
                refine HK0.out _ _ (fun _ => ?_) ?_
                · obtain ⟨s0, s1, s2, s3, s4⟩ := ms_all HIA.out HIB.out hlt2 hlt3 hs9'
                  exact ⟨s0, s1, s2, s3, s4, y9⟩
                refine Go.Proofs.Ytplplkchibefjaa.B.anyT_one' (i := 16) (by kernel_rfl) rfl (by rfl) (fun K2 hK2 => ?_)
                have HK2 := Lib.hid hK2
                clear hK2
                unfold Oper.wp
                go_simp
                refine HK2.out _ _ (fun _ => ?_) ?_
                · obtain ⟨s0, s1, s2, s3, s4⟩ := ms_all HIA.out HIB.out hlt2 hlt3 hs9'
                  exact ⟨s0, s1, s2, s3, s4, y9⟩
                refine Go.Proofs.Ytplplkchibefjaa.B.anyT_one' (i := 17) (by kernel_rfl) rfl (by rfl) (fun K1 hK1 => ?_)
                have HK1 := Lib.hid hK1
                have HM9 := Lib.hid hm9
                have HS9 := Lib.hid hs9
                clear hK1 HK2 HK0 hm9 hs9 hs9' o9 g9 hS0
                unfold Oper.wp
                go_simp
                refine HK1.out _ _ (fun h => absurd rfl h) ?_
                refine Go.Proofs.Ytplplkchibefjaa.B.anyT_done (by kernel_rfl) ?_ _
                go_wp2_with fail
                go_roundw
                case rel => exact ⟨b2 + 1, _, hlt3, by go_num, Lib.hid (by rw [HN.out]; exact HM9.out), HS9⟩
                case measure => simp [intOf]; omega
              · obtain rfl : b2 = B.length := by omega
                rw [(E3a a hlt2).out] at HM
                go_wp2_with fail
                go_roundw
                case rel => exact ⟨a + 1, vt, hlt2, by go_num, HM, HS⟩
                case measure => simp [intOf]; omega
          · obtain rfl : a = A.length := by omega
            rw [E2a.out] at HM
            clear HS
            go_wp2_with fail
            go_roundw
            case rel => exact ⟨k + 1, vt, hlt, by go_num, HM⟩
            case measure => simp [intOf]; omega
      · obtain rfl : k = g.rs.length := by omega
        obtain ⟨TA, tcap, rfl⟩ := own_slice HM1.out.t
        have hT : T1 g g.rs.length = addF [] (toldL g g.rs.length) := rfl
        have f0 : wr.cell? ⟨F, 0, none⟩ = some (.slice EV g.es.length ecap) := cell_blk HM1.out.f rfl
        have f1 : wr.cell? ⟨F, 1, none⟩ = some (.slice TA (T1 g g.rs.length).length tcap) := cell_blk HM1.out.f rfl
        have q0 := Go.Proofs.Ytplplkchibefjaa.B.frozen_blk (i := 0) HM1.out.r
        have q1 := Go.Proofs.Ytplplkchibefjaa.B.frozen_blk (i := 1) HM1.out.r
        have r0 : wr.cell? ⟨w.heap.size + 1, 0, none⟩ = some (.slice none 0 0) := cell_blk HM1.out.r rfl
        have r1 : wr.cell? ⟨w.heap.size + 1, 1, none⟩ = some (.slice none 0 0) := cell_blk HM1.out.r rfl
        have lr := (Array.getElem?_eq_some_iff.1 HM1.out.r).1
        by_cases h8 : (8000 : Int) < ((T1 g g.rs.length).length : Int)
        · obtain ⟨e1, e2, e3⟩ := end_many HM.out (by rw [← hT]; omega)
          have HN := fun {w' : World} {e : Ending} (he : e = .returned (.tuple #[.agg #[.slice none 0 0, .slice none 0 0], .int .i64 4])) (hb : Below w.heap.size w w') => Lib.hid (fend_nil e1 e2 e3 he hb)
          clear e1 e2 e3 hT
          generalize T1 g g.rs.length = L at *
          go_wp2_with fail
          obtain ⟨y1, y2, _⟩ := fin_box HM1.out.b HM1.out.r (.slice none 0 0) (.slice none 0 0)
          obtain ⟨W4, hW4⟩ : ∃ W4, W4 = (wr.setCell ⟨w.heap.size + 1, 0, none⟩ (.slice none 0 0)).setCell ⟨w.heap.size + 1, 1, none⟩ (.slice none 0 0) := ⟨_, rfl⟩
          rw [← hW4] at y1 y2 ⊢
          have z0 : W4.cell? ⟨w.heap.size + 1, 0, none⟩ = some (.slice none 0 0) := cell_blk y1 rfl
          have z1 : W4.cell? ⟨w.heap.size + 1, 1, none⟩ = some (.slice none 0 0) := cell_blk y1 rfl
          clear hW4 y1
          exact bodyPost_ret (v := .tuple #[.agg #[.slice none 0 0, .slice none 0 0], .int .i64 4]) (by simp [results, Try.results18, go_sem, z0, z1]) rfl (HN rfl y2).out
        · obtain ⟨e1, e2, e3⟩ := end_ok HM.out (by rw [← hT]; omega)
          rw [← hT] at e2
          have HE1 := Lib.hid e1
          have HE2 := Lib.hid e2
          have HE3 := Lib.hid e3
          clear e1 e2 e3 hT
          generalize T1 g g.rs.length = L at *
          go_wp2_with fail
          obtain ⟨y1, y2, y3⟩ := fin_box HM1.out.b HM1.out.r (.slice EV g.es.length ecap) (.slice TA L.length tcap)
          obtain ⟨W4, hW4⟩ : ∃ W4, W4 = (wr.setCell ⟨w.heap.size + 1, 0, none⟩ (.slice EV g.es.length ecap)).setCell ⟨w.heap.size + 1, 1, none⟩ (.slice TA L.length tcap) := ⟨_, rfl⟩
          have o1 := y3 HM1.out.e (by decide)
          have o2 := y3 HM1.out.t (by decide)
          rw [← hW4] at y1 y2 o1 o2 ⊢
          have z0 : W4.cell? ⟨w.heap.size + 1, 0, none⟩ = some (.slice EV g.es.length ecap) := cell_blk y1 rfl
          have z1 : W4.cell? ⟨w.heap.size + 1, 1, none⟩ = some (.slice TA L.length tcap) := cell_blk y1 rfl
          clear hW4 y1 y3
          exact bodyPost_ret (v := .tuple #[.agg #[.slice EV g.es.length ecap, .slice TA L.length tcap], .int .i64 0]) (by simp [results, Try.results18, go_sem, z0, z1]) rfl (by
            rw [HE1.out, HE2.out, HE3.out]
            exact ⟨EV, ecap, TA, tcap, rfl, Row.of_own o1, Row.of_own o2, y2⟩)
end Go.Proofs.Ytplplkchibefjaa.P4
