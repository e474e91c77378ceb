/-
  NeedsTells: layer 5's Own, what stands in the law, and its calls.
-/
import Derived.Test.YtigicbnkfmbolaaCbg
import Derived.Test.YtigicbnkfmbolaaCbj
namespace Go.Proofs.Ytigicbnkfmbolaa.N7.T
open Go.RowKit Go.Shelf Go.Proofs.Ytigicbnkfmbolaa.B Go.Proofs.Ytigicbnkfmbolaa.R6 Go.Proofs.Ytigicbnkfmbolaa.R6.T Go.Proofs.Ytigicbnkfmbolaa.N7
theorem below3 (w : World) (a b c : Obj) : Below w.heap.size w (((w.alloc a).alloc b).alloc c) :=
  (((Below.refl _ _).alloc (Nat.le_refl _) _).alloc (by rw [World.size_alloc]; omega) _).alloc (by rw [World.size_alloc, World.size_alloc]; omega) _
/-- append onto a row of the call's own, as one step of a region that draws. -/
theorem step_append {P : Program} {ops : Array Oper} {o : Oper} {a : Act} {w : World} {K : Act → World → Prop} {Q : Exit → Act → World → Prop} {E : Prop}
    (hg : o.guard = none) (s x : Operand) (t : TypeId) (hop : o.op = Op.call { callee := Callee.builtin Builtin.append, args := #[s, x], argTypes := #[t, t] })
    (B : Nat) (e : TypeId) (i : TypeInfo) (z : Value) (size bytes : Nat) (h1 : P.underlying t = some (.slice e)) (h2 : P.info? e = some i) (h3 : i.zero = some z) (h4 : i.size = size) (h5 : i.bytes = bytes) (h6 : z.cells.size = size) (h7 : 0 < size)
    (v : Value) (n : Nat) (xs : List Value) (hs : a.eval s = v) (hown : w.ownsRow B e size v n xs)
    (ad : Addr) (m c : Nat) (news : List Value) (hx : a.eval x = .slice (some ad) m c) (hn : news.length = m * size) (hc : ∀ j u, news[j]? = some u → w.cell? (ad.add j) = some u) (h1c : ∀ u ∈ news, u.oneCell' = true)
    (b1 : n + m ≤ maxLen) (b2 : (n + m) * bytes ≤ 140737488355328) (hb : B ≤ w.heap.size)
    (hK : ∀ v' w', w'.ownsRow B e size v' (n + m) (xs ++ news) → w.grownBy w' v.ownBlock → K (a.put o.dst v') w') :
    if Region.wanted o (yielded ops a.tmps) = true then Oper.wp P o a w K Q else E := by
  have hw : Region.wanted o (yielded ops a.tmps) = true := by simp [Region.wanted, hg]
  rw [if_pos hw]
  obtain ⟨v', w', hrun, r1, r2, _⟩ := run_append_own (P := P) w B t o.type e i z size bytes h1 h2 h3 h4 h5 h6 h7 v n xs hown ad m c news hn hc h1c b1 b2 hb
  unfold Oper.wp
  simp [execOp, hop, resolve, invoke, builtin, hs, hx, hrun, Result.andThen]
  exact hK v' w' r1 r2
theorem one_ti (x : Ti) : ∀ u ∈ tiC x, u.oneCell' = true := by intro u hu; simp [tiC] at hu; rcases hu with rfl | rfl | rfl | rfl <;> rfl
/-- The boxes of Own: the graph, the answer, what is made. -/
structure OX (w : World) (fl : Array Value) (v1 v : Value) (n : Nat) (xs : List Value) (W : World) : Prop where
  b : Below w.heap.size w W
  f : W.heap[w.heap.size]? = some (.cells fl 25 (0, 0))
  r : W.heap[w.heap.size + 1]? = some (.cells #[.slice none 0 0, .slice none 0 0] 30 (0, 0))
  o : W.heap[w.heap.size + 1 + 1]? = some (.cells #[v1, v] 30 (0, 0))
  v : W.ownsRow w.heap.size 50 4 v n xs
theorem OX.lt {w W : World} {fl : Array Value} {v1 v : Value} {n : Nat} {xs : List Value} (h : OX w fl v1 v n xs W) : w.heap.size + 1 + 1 < W.heap.size := blk_lt h.o
theorem OX.below {w W W' : World} {fl : Array Value} {v1 v : Value} {n : Nat} {xs : List Value} (h : OX w fl v1 v n xs W) (hb : Below W.heap.size W W') : OX w fl v1 v n xs W' :=
  have hl := h.lt
  ⟨h.b.trans (hb.mono (by omega)), (hb.block _ (by omega)).trans h.f, (hb.block _ (by omega)).trans h.r, (hb.block _ hl).trans h.o, own_below h.v hb⟩
theorem OX.alloc {w W : World} {fl : Array Value} {v1 v : Value} {n : Nat} {xs : List Value} (h : OX w fl v1 v n xs W) (o : Obj) : OX w fl v1 v n xs (W.alloc o) := h.below ((Below.refl _ _).alloc (Nat.le_refl _) _)
theorem OX.drew {w W : World} {fl : Array Value} {v1 v : Value} {n : Nat} {xs : List Value} (h : OX w fl v1 v n xs W) : OX w fl v1 v n xs W.drew := h.below (below_draws (Below.refl _ _) 1)
/-- Behind an append, and behind its store. -/
theorem OX.put {w W W' : World} {fl : Array Value} {v1 v v' : Value} {n n' : Nat} {xs xs' : List Value} (h : OX w fl v1 v n xs W) (hg : W.grownBy W' v.ownBlock) (hv : W'.ownsRow w.heap.size 50 4 v' n' xs') :
    OX w fl v1 v' n' xs' (W'.setCell ⟨w.heap.size + 1 + 1, 1, none⟩ v') ∧ (W'.cell? ⟨w.heap.size + 1 + 1, 1, none⟩ = some v ∧ W'.frozen? ⟨w.heap.size + 1 + 1, 1, none⟩ = false) := by
  have hl := h.lt
  have k : ∀ j (cs : Array Value) (T : TypeId), W.heap[j]? = some (Obj.cells cs T (0, 0)) → (50 : TypeId) ≠ T → W'.heap[j]? = some (Obj.cells cs T (0, 0)) := fun j cs T hj hT =>
    (hg.block j (blk_lt hj) (fun e => own_far h.v hj hT e.symm)).trans hj
  have kf := k _ _ _ h.f (by decide)
  have kr := k _ _ _ h.r (by decide)
  have ko := k _ _ _ h.o (by decide)
  refine ⟨⟨(h.b.grown hg (by omega) (fun j hj => (h.v.lt j hj).1)).setCell (p := ⟨w.heap.size + 1 + 1, 1, none⟩) (by show w.heap.size ≤ w.heap.size + 1 + 1; omega) v', ?_, ?_, ?_, own_set hv (own_far hv ko (by decide)) _⟩, cell_blk ko rfl, frozen_blk ko⟩
  · rw [blk_other (by omega)]; exact kf
  · rw [blk_other (by omega)]; exact kr
  · rw [blk_set ko]; rfl
theorem OX.start (w : World) (fl : Array Value) (v1 : Value) : OX w fl v1 (.slice none 0 0) 0 [] (((w.alloc (.cells fl 25)).alloc (.cells #[.slice none 0 0, .slice none 0 0] 30)).alloc (.cells #[v1, .slice none 0 0] 30)) := by
  refine ⟨below3 _ _ _ _, ?_, ?_, ?_, World.ownsRow_nil _ _ _ _⟩
  · exact heap_old (by rw [World.size_alloc, World.size_alloc]; omega) (heap_old (by rw [World.size_alloc]; omega) (heap_new _ _))
  · have h := heap_new (w.alloc (.cells fl 25)) (.cells #[.slice none 0 0, .slice none 0 0] 30)
    rw [World.size_alloc] at h
    exact heap_old (by rw [World.size_alloc, World.size_alloc]; omega) h
  · have h := heap_new ((w.alloc (.cells fl 25)).alloc (.cells #[.slice none 0 0, .slice none 0 0] 30)) (.cells #[v1, .slice none 0 0] 30)
    rw [World.size_alloc, World.size_alloc] at h
    exact h
set_option maxRecDepth 100000 in
set_option maxHeartbeats 4000000 in
theorem own_any (w : World) (EA TA : Option Addr) (en ec tc : Nat) (ts : List Ti) (ht : Row w TA (ts.flatMap tiC)) (htl : ts.length ≤ 300) :
    Calls Try.prog 6 #[.agg #[.slice EA en ec, .slice TA ts.length tc]] w fun e w' => ∃ v, e = .returned (.agg #[.slice EA en ec, v]) ∧ w'.ownsRow w.heap.size 50 4 v ts.length (ts.flatMap tiC) ∧ Below w.heap.size w w' := by
  obtain ⟨i0, hi, hz0, hz1, hz2⟩ := info_parts info_rti
  have HI := Lib.hid hi
  have HZ0 := Lib.hid hz0
  have HZ1 := Lib.hid hz1
  have HZ2 := Lib.hid hz2
  have HT := Lib.hid ht
  have O0 := Lib.hid (OX.start w #[.slice EA en ec, .slice TA ts.length tc] (.slice EA en ec))
  clear ht hi hz0 hz1 hz2
  go_enter Try.func6, Try.ntmps6
  go_wp2_with fail
  go_loopw [11] (fun i wr => ∃ (k : Nat) (v : Value), k ≤ ts.length ∧ i = .int .i64 k ∧ Hid (OX w #[.slice EA en ec, .slice TA ts.length tc] (.slice EA en ec) v k ((ts.take k).flatMap tiC) wr)) (fun i _ => ts.length - (intOf i).toNat)
  case atStart => exact ⟨0, _, Nat.zero_le _, rfl, O0⟩
  case round =>
    clear O0
    obtain ⟨k, v, hk, rfl, HO⟩ := hrel
    obtain ⟨qa, qc, rfl⟩ := own_slice HO.out.v
    have c0 : wr.cell? ⟨w.heap.size, 1, none⟩ = some (.slice TA ts.length tc) := cell_blk HO.out.f rfl
    have o0 : wr.cell? ⟨w.heap.size + 1 + 1, 0, none⟩ = some (.slice EA en ec) := cell_blk HO.out.o rfl
    have o1 : wr.cell? ⟨w.heap.size + 1 + 1, 1, none⟩ = some (.slice qa k qc) := cell_blk HO.out.o rfl
    have r0 : wr.cell? ⟨w.heap.size + 1, 0, none⟩ = some (.slice none 0 0) := cell_blk HO.out.r rfl
    have r1 : wr.cell? ⟨w.heap.size + 1, 1, none⟩ = some (.slice none 0 0) := cell_blk HO.out.r rfl
    have q0 := frozen_blk (i := 0) HO.out.r
    have q1 := frozen_blk (i := 1) HO.out.r
    have ll := HO.out.lt
    have ll1 : w.heap.size + 1 < wr.heap.size := by omega
    have ll0 : w.heap.size < wr.heap.size := by omega
    have hk0 : (0 : Int) ≤ (k : Int) := Int.natCast_nonneg _
    by_cases hlt : k < ts.length
    · obtain ⟨b, off, rfl, hb, hc⟩ := HT.out.at_ (k := 4) (fun _ => rfl) (by omega) hlt
      have k0 := hc 0 _ rfl
      have k1 := hc 1 _ rfl
      have k2 := hc 2 _ rfl
      have k3 := hc 3 _ rfl
      rw [Nat.add_zero] at k0
      rw [← HO.out.b.cell (p := ⟨b, _, none⟩) hb] at k0 k1 k2 k3
      have hbz : b < wr.heap.size := by omega
      have hk1 : (k : Int) < (ts.length : Int) := by omega
      have HN := Lib.hid (take_next hlt)
      generalize ts[k]! = x at *
      have HOx := Lib.hid ((HO.out.alloc (.cells #[.int .i64 x.kind, .int .i64 x.fr, .int .i64 x.to, .int .i64 x.time] 50)).drew)
      have HX := Lib.hid (heap_new wr (.cells #[.int .i64 x.kind, .int .i64 x.fr, .int .i64 x.to, .int .i64 x.time] 50))
      clear hc
      go_wp2_with fail
      go_region_law (first
        | (refine step_append rfl (.tmp 15) (.tmp 21) 28 rfl w.heap.size 50 i0 _ 4 32 Try.underlying28 HI.out HZ0.out HZ1.out HZ2.out rfl (by omega) (.slice qa k qc) k _ rfl HOx.out.v ⟨wr.heap.size, 0, none⟩ 1 1 (tiC x) rfl rfl (fun j u hj => by rw [Addr.add_lit, Nat.zero_add]; exact cell_blk HX.out (by simpa [tiC] using hj)) (one_ti x) (by unfold maxLen; omega) (by omega) (Nat.le_of_lt (Nat.lt_trans (by omega) HOx.out.lt)) ?_; intro v' w9 hown' hgrow; obtain ⟨pa, pc, rfl⟩ := own_slice hown'; obtain ⟨HO9, y1, f1⟩ := HOx.out.put hgrow hown'; have HO10 := Lib.hid HO9; clear hown' hgrow HO9))
      all_goals
        have HO11 : Hid (OX w #[.slice EA en ec, .slice (some ⟨b, off, none⟩) ts.length tc] (.slice EA en ec) (.slice pa (k + 1) pc) (k + 1) ((ts.take (k + 1)).flatMap tiC) (w9.setCell ⟨w.heap.size + 1 + 1, 1, none⟩ (.slice pa (k + 1) pc))) := Lib.hid (by
          rw [HN.out, List.flatMap_append]
          have e8 : (List.flatMap tiC [x]) = tiC x := by simp
          rw [e8]; exact HO10.out)
        clear HO10 HOx HX
        go_wp2_with fail
        go_roundw
        case rel => exact ⟨k + 1, _, hlt, by go_num, HO11⟩
        case measure => simp [intOf]; omega
    · obtain rfl : k = ts.length := by omega
      have hO := HO.out.v
      rw [List.take_length] at hO
      have HOe := Lib.hid hO
      have HBe := Lib.hid HO.out.b
      clear hO
      have z0 : (wr.setCell ⟨w.heap.size + 1, 0, none⟩ (.slice EA en ec)).cell? ⟨w.heap.size + 1, 0, none⟩ = some (.slice EA en ec) := World.cell?_setCell_same _ _ _ r0
      have z1 : ((wr.setCell ⟨w.heap.size + 1, 0, none⟩ (.slice EA en ec)).setCell ⟨w.heap.size + 1, 1, none⟩ (.slice qa ts.length qc)).cell? ⟨w.heap.size + 1, 1, none⟩ = some (.slice qa ts.length qc) :=
        World.cell?_setCell_same _ _ _ ((World.cell?_setCell_other _ _ _ _ (by simp)).trans r1)
      have Z0 := Lib.hid z0
      have Z1 := Lib.hid z1
      clear z0 z1
      go_wp2_with fail
      have z0 := Z0.out
      have z1 := Z1.out
      exact bodyPost_ret (v := .agg #[.slice EA en ec, .slice qa ts.length qc]) (by simp [results, Try.results6, go_sem, z0, z1]) rfl ⟨.slice qa ts.length qc, rfl, own_set (own_set HOe.out (own_far HOe.out HO.out.r (by decide)) _) (own_far HOe.out HO.out.r (by decide)) _, (HBe.out.setCell (p := ⟨w.heap.size + 1, 0, none⟩) (by show w.heap.size ≤ w.heap.size + 1; omega) _).setCell (p := ⟨w.heap.size + 1, 1, none⟩) (by show w.heap.size ≤ w.heap.size + 1; omega) _⟩
structure TX (w : World) (EA TA TB : Option Addr) (ec tc bc bx : Nat) (es : List Ev) (ts : List Ti) (W : World) : Prop where
  f : BT1 25 w #[.slice EA es.length ec, .slice TA ts.length tc] W
  x : W.heap[bx]? = some (.cells #[.slice EA es.length ec, .slice TB ts.length bc] 30 (0, 0))
  g : FI W EA TA es ts
  d : FI W EA TB es ts
section
variable {w W W' : World} {EA TA TB : Option Addr} {ec tc bc bx : Nat} {es : List Ev} {ts : List Ti}
theorem TX.call (h : TX w EA TA TB ec tc bc bx es ts W) (hb : Below W.heap.size W W') : TX w EA TA TB ec tc bc bx es ts W' := ⟨h.f.call hb, (hb.block _ (blk_lt h.x)).trans h.x, h.g.below hb, h.d.below hb⟩
/-- What the law's region reads. -/
def TS (w : World) (EA TA TB : Option Addr) (ec tc bc bx en tn : Nat) (W : World) : Prop :=
  (W.cell? ⟨w.heap.size, 0, none⟩ = some (.slice EA en ec) ∧ W.cell? ⟨w.heap.size, 1, none⟩ = some (.slice TA tn tc)) ∧ W.cell? ⟨bx, 0, none⟩ = some (.slice EA en ec) ∧ W.cell? ⟨bx, 1, none⟩ = some (.slice TB tn bc)
theorem TX.s (h : TX w EA TA TB ec tc bc bx es ts W) : TS w EA TA TB ec tc bc bx es.length ts.length W := ⟨h.f.cells, cell_blk h.x rfl, cell_blk h.x rfl⟩
end
/-- A list, as a row. -/
def RwP (W : World) (L : List Int) (e : Ending) (w' : World) : Prop := ∃ a k, e = .returned (.slice a L.length k) ∧ Row w' a (L.map (Value.int .i64)) ∧ Below W.heap.size W w'
theorem rw_of {F : FuncId} {args : Array Value} {W : World} {L : List Int} (h : Calls Try.prog F args W (InP W L)) : Calls Try.prog F args W (RwP W L) := inP_row h rfl
theorem nt_of {F : FuncId} {args : Array Value} {W : World} {N : Nat} {l : NetL} (h : Calls Try.prog F args W (NetP W N l)) (hl : l.length = N) : Calls Try.prog F args W (DNP W N l) := by
  refine h.mono ?_
  rintro e w' ⟨g, vs, rfl, ho, hb⟩
  obtain ⟨A, c, rs, hv, hn, hi⟩ := ho.net
  rw [nt_len hn, hl] at hv
  injection hv with hv1 _ hv2
  exact ⟨_, _, rfl, ⟨rs, hn, by rw [hv1]; exact hi⟩, hb⟩
end Go.Proofs.Ytigicbnkfmbolaa.N7.T
