/-
  MarkDoes answers true, whatever graph, whatever marks and whatever event it is given.
-/
import Derived.Test.YtplplkchibefjaaMkV
import Derived.Test.YtplplkchibefjaaMkRd
import Derived.Test.YtplplkchibefjaaMkRe
import Derived.Laws.AppendOwnNone
namespace Go.Proofs.Ytplplkchibefjaa.M5.Does
open Go.RowKit Go.Shelf Go.Deep Go.Joins Go.ChangeShapes Go.WideShapes Go.Proofs.Ytplplkchibefjaa.B Go.Proofs.Ytplplkchibefjaa.M5

def doR (n : Nat) (ts : List Ti) (l : List Mk) (i : Int) : List Mk := if doE n ts l i = 0 then doL ts l i.toNat else []
def tickR (n : Nat) (l : List Mk) : List Mk := if tickE n l = 0 then l.map oldM else []
theorem doR_len (n : Nat) (ts : List Ti) (l : List Mk) (i : Int) : (doR n ts l i).length ≤ l.length := by
  unfold doR; split
  · rw [do_len]; exact Nat.le_refl _
  · exact Nat.zero_le _
theorem tickR_len (n : Nat) (l : List Mk) : (tickR n l).length ≤ l.length := by
  unfold tickR; split
  · simp
  · exact Nat.zero_le _
theorem do_row {w W : World} {n : Nat} {ts : List Ti} {l : List Mk} {i : Int} {e : Ending} (h : DoEnd w n ts l i e W) :
    ∃ A c, e = .returned (.tuple #[.slice A (doR n ts l i).length c, .int .i64 (doE n ts l i)]) ∧ Row W A ((doR n ts l i).flatMap mkC) ∧ Below w.heap.size w W := by
  obtain ⟨hb, v, rfl, h1, h2⟩ := h
  unfold doR
  by_cases hq : doE n ts l i = 0
  · rw [if_pos hq]
    have ho := h1 hq
    rw [← do_len ts l i.toNat] at ho
    obtain ⟨A, c, rfl⟩ := own_slice ho
    exact ⟨A, c, rfl, Row.of_own ho, hb⟩
  · rw [if_neg hq, h2 hq]
    exact ⟨none, 0, rfl, fun h => absurd rfl h, hb⟩
theorem tick_row {w W : World} {n : Nat} {l : List Mk} {e : Ending} (h : TickEnd w n l e W) :
    ∃ A c, e = .returned (.tuple #[.slice A (tickR n l).length c, .int .i64 (tickE n l)]) ∧ Row W A ((tickR n l).flatMap mkC) ∧ Below w.heap.size w W := by
  obtain ⟨hb, v, rfl, h1, h2⟩ := h
  unfold tickR
  by_cases hq : tickE n l = 0
  · rw [if_pos hq]
    have ho := h1 hq
    rw [← List.length_map (f := oldM)] at ho
    obtain ⟨A, c, rfl⟩ := own_slice ho
    exact ⟨A, c, rfl, Row.of_own ho, hb⟩
  · rw [if_neg hq, h2 hq]
    exact ⟨none, 0, rfl, fun h => absurd rfl h, hb⟩
theorem grown_refl (w : World) (r : Option Nat) : w.grownBy w r := by constructor <;> simp
/-- append of a row that came in, nil or not. -/
theorem append_any {P : Program} {w : World} {ops : Array Oper} {rest : List Oper} {o : Oper} {a : Act} {Q : Exit → Act → World → Prop} (hgd : o.guard = none) (s x : Operand) (t : TypeId)
    (ho : o.op = .call { callee := .builtin .append, args := #[s, x], argTypes := #[t, t] })
    (base : Nat) (e : TypeId) (i : TypeInfo) (z : Value) (size bytes : Nat) (ht : P.underlying t = some (.slice e)) (hi : P.info? e = some i) (hz : i.zero = some z)
    (hsize : i.size = size) (hby : i.bytes = bytes) (hzs : z.cells.size = size) (hsz : 0 < size)
    (v : Value) (n : Nat) (xs : List Value) (hs : a.eval s = v) (hown : w.ownsRow base e size v n xs)
    (A : Option Addr) (m c : Nat) (news : List Value) (hx : a.eval x = .slice A m c) (hA : A = none → m = 0 ∧ c = 0) (hl : news.length = m * size) (hnews : Row w A news) (h1 : ∀ u ∈ news, u.oneCell' = true)
    (h63 : n + m ≤ maxLen) (hbytes : (n + m) * bytes ≤ 140737488355328) (hbase : base ≤ w.heap.size)
    (h : ∀ v' w', w'.ownsRow base e size v' (n + m) (xs ++ news) → w.grownBy w' v.ownBlock → wpList P ops Q rest (a.put o.dst v') w') : wpList P ops Q (o :: rest) a w := by
  cases A with
  | none =>
    obtain ⟨rfl, rfl⟩ := hA rfl
    have e0 : news = [] := List.length_eq_zero_iff.1 (by rw [hl, Nat.zero_mul])
    subst e0
    exact wpList_append_own_none hgd s x t ho base e i size ht hi v n xs hs hown hx (h v w (by rw [List.append_nil]; exact hown) (grown_refl _ _))
  | some ad =>
    refine wpList_append_own w hgd s x t ho base e i z size bytes ht hi hz hsize hby hzs hsz v n xs hs hown ad m c news hx hl (fun j u hj => ?_) h1 h63 hbytes hbase (fun v' w' q1 q2 _ => h v' w' q1 q2)
    obtain ⟨b, off, e1, _, hc⟩ := hnews (fun e => by rw [e] at hj; cases hj)
    injection e1 with e1
    rw [e1, Addr.add_lit]
    exact hc j u hj
/-- The two boxes: the graph, the same as the document has it. -/
structure XF (w : World) (X : Nat) (fl gl : Array Value) (W : World) : Prop where
  l : LF w fl W
  x : W.heap[X]? = some (.cells gl 38 (0, 0))
theorem XF.lt {w W : World} {X : Nat} {fl gl : Array Value} (h : XF w X fl gl W) : w.heap.size < W.heap.size := h.l.lt
theorem XF.ltx {w W : World} {X : Nat} {fl gl : Array Value} (h : XF w X fl gl W) : X < W.heap.size := blk_lt h.x
theorem XF.call {w W W' : World} {X : Nat} {fl gl : Array Value} (h : XF w X fl gl W) (hb : Below W.heap.size W W') : XF w X fl gl W' := ⟨h.l.call hb, (hb.block _ h.ltx).trans h.x⟩
theorem XF.alloc {w W : World} {X : Nat} {fl gl : Array Value} (h : XF w X fl gl W) (o : Obj) : XF w X fl gl (W.alloc o) := h.call ((Below.refl _ _).alloc (Nat.le_refl _) _)
theorem XF.cells {w W : World} {X : Nat} {EA TA EB TB : Option Addr} {en ec tn tc fn fc un uc : Nat} (h : XF w X #[.slice EA en ec, .slice TA tn tc] #[.slice EB fn fc, .slice TB un uc] W) :
    (W.cell? ⟨w.heap.size, 0, none⟩ = some (.slice EA en ec) ∧ W.cell? ⟨w.heap.size, 1, none⟩ = some (.slice TA tn tc)) ∧ W.cell? ⟨X, 0, none⟩ = some (.slice EB fn fc) ∧ W.cell? ⟨X, 1, none⟩ = some (.slice TB un uc) := ⟨h.l.cells, cell_blk h.x rfl, cell_blk h.x rfl⟩
section
variable {H : Type} {enc : TypeId × Value → H} {w : World} {base : Nat} {spare : Nat → Bool} {held : Bool}
set_option maxRecDepth 100000 in
theorem open_mkn {r : Reach} {b0 : Nat} {v : Value} {d : DataW H} {p : List MemPlace} (hv : Value.okWide Try.prog w r b0 57 v) (h : DataW.Trod enc Try.prog w base spare held 57 v d p) (hw : Wt Try.prog 57 d) :
    ∃ (A : Option Addr) (c : Nat) (l : List Mk), v = .slice A l.length c ∧ Row w A (l.flatMap mkC) ∧ l.length ≤ c ∧ (A = none → c = 0) := by
  obtain ⟨a, n, c, rfl⟩ := okWide_slice Try.underlying57 hv
  obtain ⟨f, hf⟩ := h
  obtain ⟨A, l, c', e, r0, _, q1, q2, _⟩ := open_list mkC 3 goodM Try.underlying57 (by kernel_rfl) (fun _ => rfl) (by omega) rd_mk (v := .slice a n c) hf hw
  exact ⟨A, c', l, e, r0, q1, q2⟩
end
set_option maxRecDepth 100000 in
set_option maxHeartbeats 8000000 in
theorem walk (w : World) (EA TA A : Option Addr) (ec tc c : Nat) (es : List Ev) (ts : List Ti) (l : List Mk) (i : Int) (ht : Row w TA (ts.flatMap tiC)) (hr : Row w A (l.flatMap mkC)) (hlc : l.length ≤ c) (hA : A = none → c = 0) :
    Calls Try.prog 8 #[.agg #[.slice EA es.length ec, .slice TA ts.length tc], .slice A l.length c, .int .i64 i] w fun e w' => e = .returned (.bool true) ∧ Below w.heap.size w w' := by
  obtain ⟨i0, hi, hz0, hz1, hz2⟩ := info_parts info_mk
  have HI := Lib.hid hi
  have HZ0 := Lib.hid hz0
  have HZ1 := Lib.hid hz1
  have HZ2 := Lib.hid hz2
  have L0 := Lib.hid (LF.start w #[.slice EA es.length ec, .slice TA ts.length tc])
  have AWK := Lib.hid (awake_any (w.alloc (.cells #[.slice EA es.length ec, .slice TA ts.length tc] 32)))
  have HT := Lib.hid ht
  have HR := Lib.hid hr
  have HC := Lib.hid (And.intro hlc hA)
  clear ht hr hi hz0 hz1 hz2 hlc hA
  go_enter Try.func8, Try.ntmps8
  go_wp2_with fail
  refine AWK.out.mono ?_
  rintro e w1 ⟨rfl, hb⟩
  have L1 := Lib.hid (L0.out.call hb)
  clear hb AWK L0
  obtain ⟨c0, c1⟩ := L1.out.cells
  have ll := L1.out.lt
  go_wp2_with fail
  refine (large_any EA TA es.length ec ts.length tc w1).mono ?_
  rintro e w2 ⟨rfl, hb⟩
  have L2 := Lib.hid (L1.out.call hb)
  clear hb L1 c0 c1 ll
  obtain ⟨c0, c1⟩ := L2.out.cells
  have ll := L2.out.lt
  cases hlg : largeB es.length ts.length with
  | true =>
    clear hlg
    go_wp2_with fail
    go_ret
    exact ⟨rfl, L2.out.b⟩
  | false =>
    obtain ⟨hel, htl⟩ := large_no hlg
    clear hlg
    by_cases hll : 60 < l.length
    · go_wp2_with fail
      go_ret
      exact ⟨rfl, L2.out.b⟩
    · have O := Lib.hid (own_any w2 EA TA es.length ec tc ts (HT.out.below (Nat.le_refl _) L2.out.b) htl)
      go_wp2_with fail
      refine O.out.mono ?_
      rintro e w3 ⟨v, rfl, ho, hb⟩
      have L3 := Lib.hid (L2.out.call hb)
      obtain ⟨TB, uc, rfl⟩ := own_slice ho
      have HU := Lib.hid (Row.of_own ho)
      clear hb ho O L2 c0 c1 ll
      have hz3 := L3.out.lt
      have X5 := Lib.hid (XF.mk (X := w3.heap.size) (L3.out.alloc (.cells #[.slice EA es.length ec, .slice TB ts.length uc] 38)) (heap_new _ _))
      obtain ⟨W5, hW5⟩ : ∃ W5, W5 = w3.alloc (.cells #[.slice EA es.length ec, .slice TB ts.length uc] 38) := ⟨_, rfl⟩
      have hU5 := HU.out.below (Nat.le_refl _) ((Below.refl _ _).alloc (Nat.le_refl _) (.cells #[.slice EA es.length ec, .slice TB ts.length uc] 38))
      rw [← hW5] at X5 hU5
      have HU5 := Lib.hid hU5
      have V5 : Hid ((W5.alloc (.cells #[] 77)).ownsRow w.heap.size 77 3 (.slice (some ⟨W5.heap.size, 0, none⟩) 0 0) 0 []) := Lib.hid (own_empty (heap_new _ _) (Nat.le_of_lt X5.out.lt))
      have X6 := Lib.hid (X5.out.alloc (.cells #[] 77))
      have HU6 := Lib.hid (HU5.out.below (Nat.le_refl _) ((Below.refl _ _).alloc (Nat.le_refl _) (.cells #[] 77)))
      have HR6 := Lib.hid (HR.out.below (Nat.le_refl _) X6.out.l.b)
      have s5 : W5.heap.size = w3.heap.size + 1 := by rw [hW5, World.size_alloc]
      have HW5 := Lib.hid hW5
      clear hW5 hU5 HU L3
      have HFL := Lib.hid (flat_len mkC 3 (fun _ => rfl) l)
      have HOne := Lib.hid (flat_one one_mk l)
      have ll := hz3
      go_wp2_with (at_builtin; rw [← HW5.out, ← s5]; refine append_any rfl (.tmp 28) (.tmp 29) 57 rfl w.heap.size 77 i0 _ 3 24 Try.underlying57 HI.out HZ0.out HZ1.out HZ2.out rfl (by omega) _ _ _ rfl V5.out A l.length c (l.flatMap mkC) rfl ?c0 HFL.out HR6.out HOne.out ?c3 ?c4 ?c5 ?_)
      case c0 => exact fun h => by have h1 := HC.out.2 h; have h2 := HC.out.1; omega
      case c3 => unfold maxLen; omega
      case c4 => omega
      case c5 => exact Nat.le_of_lt X6.out.lt
      intro v' w6 hown hgrow
      have hb6 : Below W5.heap.size W5 w6 := ((Below.refl W5.heap.size W5).alloc (Nat.le_refl _) (.cells #[] 77)).grown hgrow (by rw [World.size_alloc]; omega) (fun j hj => by
        have e0 : some (w3.heap.size + 1) = some j := hj
        injection e0 with e0; omega)
      have X6b := Lib.hid (X5.out.call hb6)
      have HU6b := Lib.hid (HU5.out.below (Nat.le_refl _) hb6)
      replace hown : w6.ownsRow w.heap.size 77 3 v' l.length (l.flatMap mkC) := by simpa using hown
      obtain ⟨GA, gc, rfl⟩ := own_slice hown
      have HG6 := Lib.hid (Row.of_own hown)
      have hX6 : w3.heap.size < w6.heap.size := X6b.out.ltx
      clear hown hgrow hb6 X6 HU6 HR6 V5 X5 HU5 ll s5 HW5
      have D := Lib.hid (do_any w6 EA TA A es.length ec tc c ts l i (HT.out.below (Nat.le_refl _) X6b.out.l.b) (by omega) (HR.out.below (Nat.le_refl _) X6b.out.l.b) (by omega))
      obtain ⟨⟨c0, c1⟩, c2, c3⟩ := X6b.out.cells
      have ll := X6b.out.lt
      go_wp2_with fail
      refine D.out.mono ?_
      intro e w7 h7
      obtain ⟨A7, c7, rfl, hr7, hb7⟩ := do_row h7
      have X7 := Lib.hid (X6b.out.call hb7)
      have HU7 := Lib.hid (HU6b.out.below (Nat.le_refl _) hb7)
      have HG7 := Lib.hid (HG6.out.below (Nat.le_refl _) hb7)
      have HA7 := Lib.hid hr7
      clear h7 hr7 hb7 X6b HU6b HG6 D c0 c1 c2 c3 ll
      have D := Lib.hid (rdo_any w7 EA TB A es.length ec uc c ts l i HU7.out htl (HR.out.below (Nat.le_refl _) X7.out.l.b) (by omega))
      obtain ⟨⟨c0, c1⟩, c2, c3⟩ := X7.out.cells
      have ll := X7.out.lt
      have lx := X7.out.ltx
      go_wp2_with fail
      refine D.out.mono ?_
      intro e w8 h8
      obtain ⟨B8, d8, rfl, hr8, hb8⟩ := do_row h8
      have X8 := Lib.hid (X7.out.call hb8)
      have HG8 := Lib.hid (HG7.out.below (Nat.le_refl _) hb8)
      have HA8 := Lib.hid (HA7.out.below (Nat.le_refl _) hb8)
      have HB8 := Lib.hid hr8
      clear h8 hr8 hb8 X7 HU7 HG7 HA7 D c0 c1 c2 c3 ll lx
      have HDl := doR_len es.length ts l i
      generalize doR es.length ts l i = N at *
      generalize doE es.length ts l i = er at *
      have D := Lib.hid (tick_any w8 EA TA A es.length ec ts.length tc c l (HR.out.below (Nat.le_refl _) X8.out.l.b) (by omega))
      obtain ⟨⟨c0, c1⟩, c2, c3⟩ := X8.out.cells
      have ll := X8.out.lt
      have lx := X8.out.ltx
      go_wp2_with fail
      refine D.out.mono ?_
      intro e w9 h9
      obtain ⟨C9, e9, rfl, hr9, hb9⟩ := tick_row h9
      have X9 := Lib.hid (X8.out.call hb9)
      have HG9 := Lib.hid (HG8.out.below (Nat.le_refl _) hb9)
      have HA9 := Lib.hid (HA8.out.below (Nat.le_refl _) hb9)
      have HB9 := Lib.hid (HB8.out.below (Nat.le_refl _) hb9)
      have HC9 := Lib.hid hr9
      clear h9 hr9 hb9 X8 HG8 HA8 HB8 D c0 c1 c2 c3 ll lx
      have D := Lib.hid (rtick_any w9 EA TB A es.length ec ts.length uc c l (HR.out.below (Nat.le_refl _) X9.out.l.b) (by omega))
      obtain ⟨⟨c0, c1⟩, c2, c3⟩ := X9.out.cells
      have ll := X9.out.lt
      have lx := X9.out.ltx
      go_wp2_with fail
      refine D.out.mono ?_
      intro e w10 h10
      obtain ⟨D10, e10, rfl, hr10, hb10⟩ := tick_row h10
      have X10 := Lib.hid (X9.out.call hb10)
      have HG10 := Lib.hid (HG9.out.below (Nat.le_refl _) hb10)
      have HA10 := Lib.hid (HA9.out.below (Nat.le_refl _) hb10)
      have HB10 := Lib.hid (HB9.out.below (Nat.le_refl _) hb10)
      have HC10 := Lib.hid (HC9.out.below (Nat.le_refl _) hb10)
      have HD10 := Lib.hid hr10
      clear h10 hr10 hb10 X9 HG9 HA9 HB9 HC9 D c0 c1 c2 c3 ll lx
      have HTl := tickR_len es.length l
      generalize tickR es.length l = M at *
      generalize tickE es.length l = et at *
      have S1 := rsame_any A7 B8 c7 d8 N N w10 HA10.out HB10.out (by omega)
      rw [decide_eq_true rfl] at S1
      have HS1 := Lib.hid S1
      clear S1
      go_wp2_with fail
      refine HS1.out.mono ?_
      rintro e w11 ⟨rfl, hb11⟩
      have X11 := Lib.hid (X10.out.call hb11)
      have HG11 := Lib.hid (HG10.out.below (Nat.le_refl _) hb11)
      have S2 := rsame_any C9 D10 e9 e10 M M w11 (HC10.out.below (Nat.le_refl _) hb11) (HD10.out.below (Nat.le_refl _) hb11) (by omega)
      rw [decide_eq_true rfl] at S2
      have HS2 := Lib.hid S2
      clear S2 hb11 HA10 HB10 HC10 HD10 HS1 X10 HG10
      go_wp2_with fail
      refine HS2.out.mono ?_
      rintro e w12 ⟨rfl, hb12⟩
      have X12 := Lib.hid (X11.out.call hb12)
      have S3 := rsame_any A GA c gc l l w12 (HR.out.below (Nat.le_refl _) X12.out.l.b) (HG11.out.below (Nat.le_refl _) hb12) (by omega)
      rw [decide_eq_true rfl] at S3
      have HS3 := Lib.hid S3
      clear S3 hb12 HS2 X11 HG11
      go_wp2_with fail
      refine HS3.out.mono ?_
      rintro e w13 ⟨rfl, hb13⟩
      have X13 := Lib.hid (X12.out.call hb13)
      clear hb13 HS3 X12
      go_wp2_with fail
      go_ret
      exact ⟨rfl, X13.out.l.b⟩

theorem own : ownKnob Try.prog.godebug = none := by kernel_rfl
set_option maxRecDepth 100000 in
theorem lifted (os : Os) (started : os.Started) (H : Type) (enc : TypeId × Value → H) :
    ReturnsInHanded {} Try.checked os 8 .any (Rows.markDoesSpec.pre6 enc Try.prog Try.f8 Rows.markDoesRow.domain false) (Rows.markDoesSpec.post enc Try.prog Try.f8 false true false false) := by
  refine returnsInHanded_of_change_sized (C := Try.checked) own started (by kernel_rfl) Try.func8
    (ChangeSpec.witness6 (enc := enc) (C := Try.checked) false ⟨#[], #[.agg #[.slice none 0 0, .slice none 0 0], .slice none 0 0, .int .i64 0], []⟩ 8 (by kernel_rfl) (by kernel_rfl) (by kernel_rfl) (by kernel_rfl)) ?_
  intro W base args ds gs before hval0 hW _ hsz0 _
  have hsz : (DataW.weightsEach Try.prog (Try.f8.params.toList ++ Rows.markDoesSpec.plain.varTypes Try.prog) (ds ++ gs)).all (· ≤ reachBytes) = true := hsz0
  have hval : ∀ (j : Nat) t v, Try.f8.params[j]? = some t → args[j]? = some v → Value.okWide Try.prog W .any base t v := hval0
  have hW' := hW
  obtain ⟨p, q, hA0, hV, rfl, _, _⟩ := hW
  have hA : DataW.TrodAll enc Try.prog W 0 (fun _ => true) true Try.f8.params.toList args.toList ds p := hA0
  rw [Try.params8] at hA hval hsz
  obtain ⟨v0, vs0, d0, ds0, p0, q0, hargs, rfl, rfl, h0, r0⟩ := trodAll_cons hA
  obtain ⟨v1, vs1, d1, ds1, p1, q1, e1, rfl, rfl, h1, r1⟩ := trodAll_cons r0
  obtain ⟨v2, vs2, d2, ds2, p2, q2, e2, rfl, rfl, h2, r2⟩ := trodAll_cons r1
  obtain ⟨rfl, rfl, rfl⟩ := trodAll_nil r2
  subst e2
  subst e1
  obtain rfl : args = #[v0, v1, v2] := by cases args; simp_all
  obtain ⟨rfl, rfl⟩ := trodVars_none hV
  have hw0 : Wt Try.prog 32 d0 := Wt.of hsz (j := 0) rfl rfl
  obtain ⟨EA, TA, ec, tc, es, ts, rfl, he, ht, hel, htl, hge, hgt⟩ := open_flat (hval 0 _ v0 rfl rfl) h0 hw0
  have hw1 : Wt Try.prog 57 d1 := Wt.of hsz (j := 1) rfl rfl
  obtain ⟨A1, c1, l1, rfl, hr1, hlc1, hA1⟩ := open_mkn (hval 1 _ v1 rfl rfl) h1 hw1
  obtain ⟨i2, rfl, hw2⟩ := open_int (hval 2 _ v2 rfl rfl) h2
  clear hA0 hval0 hsz0
  simp only [List.append_nil] at hW'
  have hlt0 := fun x hx => hW'.lt x hx
  refine (walk W EA TA A1 ec tc c1 es ts l1 i2 ht hr1 hlc1 hA1).mono fun e W' ⟨he2, hg⟩ => ?_
  subst he2
  have hargs := (trodAll_cons_mk (Below.trod progLaid (by kernel_rfl) (of_decide_eq_true (by kernel_rfl)) h0 hg (fun x hx => hlt0 x (List.mem_append_left _ hx))) (trodAll_cons_mk (Below.trod progLaid (by kernel_rfl) (of_decide_eq_true (by kernel_rfl)) h1 hg (fun x hx => hlt0 x (List.mem_append_right _ (List.mem_append_left _ hx)))) (trodAll_cons_mk (Below.trod progLaid (by kernel_rfl) (of_decide_eq_true (by kernel_rfl)) h2 hg (fun x hx => hlt0 x (List.mem_append_right _ (List.mem_append_right _ (hx))))) (trodAll_mk0 (enc := enc) (P := Try.prog) (w := W')))))
  simp only [List.append_nil] at hargs
  exact ⟨_, rfl, _, _, _, [], p0 ++ (p1 ++ (p2)), [], hW', trodAll_cons_mk (shut_bool Try.underlying4 _) trodAll_mk0, hargs, rfl, hg.frame _, fun h => by cases h⟩

theorem proved : Rows.MarkDoesSaid :=
  OpenClaim.holds_of_wide 8 Try.f8 rfl rfl rfl rfl rfl rfl rfl ⟨rfl, rfl, rfl, rfl, rfl⟩ rfl rfl rfl rfl rfl (by kernel_rfl) Try.func8 (by kernel_rfl)
    (of_decide_eq_true (by kernel_rfl)) (by unfold Func.isWrapper; first | (rw [if_pos (by decide +kernel)]; kernel_rfl) | (rw [if_neg (by decide +kernel)]; exact ⟨rfl, rfl⟩))
    (fun os started H enc _ => lifted os started H enc)
end Go.Proofs.Ytplplkchibefjaa.M5.Does
