/-
  Contract of the document's own Do.
-/
import Derived.Test.YtplplkchibefjaaMkRb
import Derived.Test.YtplplkchibefjaaMkRc
import Derived.Test.YtplplkchibefjaaMkI
namespace Go.Proofs.Ytplplkchibefjaa.M5
open Go.RowKit Go.Shelf Go.Proofs.Ytplplkchibefjaa.B

/-- What the document's Do has made. -/
structure DR (w : World) (G n cap : Nat) (fl : Array Value) (L : List Mk) (W : World) : Prop where
  x : BX 38 w fl W
  o : W.ownsRow w.heap.size 77 3 (.slice (some ⟨G, 0, none⟩) n cap) n (L.flatMap mkC)
  z : L.length = n
theorem DR.call {w W W' : World} {G n cap : Nat} {fl : Array Value} {L : List Mk} (h : DR w G n cap fl L W) (hb : Below W.heap.size W W') : DR w G n cap fl L W' := ⟨h.x.call hb, own_below h.o hb, h.z⟩
theorem DR.alloc {w W : World} {G n cap : Nat} {fl : Array Value} {L : List Mk} (h : DR w G n cap fl L W) (o : Obj) : DR w G n cap fl L (W.alloc o) := h.call ((Below.refl _ _).alloc (Nat.le_refl _) _)
theorem DR.grown {w W W' : World} {G n cap : Nat} {fl : Array Value} {L L' : List Mk} (h : DR w G n cap fl L W) (hg : W.grownBy W' (some G)) (ho : W'.ownsRow w.heap.size 77 3 (.slice (some ⟨G, 0, none⟩) n cap) n (L'.flatMap mkC)) (hz : L'.length = n) : DR w G n cap fl L' W' :=
  have hl := h.x.lt
  ⟨⟨h.x.b.grown hg (Nat.le_of_lt hl) (fun j e => by cases e; exact (h.o.lt G rfl).1), (hg.block _ hl (fun e => own_far h.o h.x.f (by decide) e.symm)).trans h.x.f⟩, ho, hz⟩
theorem DR.set2 {w W : World} {G n cap : Nat} {fl : Array Value} {L : List Mk} (h : DR w G n cap fl L W) {q : Nat} (hq : q < n) (i : Int) : DR w G n cap fl (L.set q { L[q]! with due := i }) (W.setCell ⟨G, q * 3 + 2, none⟩ (.int .i64 i)) := by
  have hz := h.z
  have h1 := h.o.stored (q * 3 + 2) (.int .i64 i)
  rw [mk_set2 _ q (by omega)] at h1
  exact h.grown h1.2 h1.1 (by simp [hz])
theorem DR.set1 {w W : World} {G n cap : Nat} {fl : Array Value} {L : List Mk} (h : DR w G n cap fl L W) {q : Nat} (hq : q < n) (i : Int) : DR w G n cap fl (L.set q { L[q]! with age := i }) (W.setCell ⟨G, q * 3 + 1, none⟩ (.int .i64 i)) := by
  have hz := h.z
  have h1 := h.o.stored (q * 3 + 1) (.int .i64 i)
  rw [mk_set1 _ q (by omega)] at h1
  exact h.grown h1.2 h1.1 (by simp [hz])
theorem DR.set0 {w W : World} {G n cap : Nat} {fl : Array Value} {L : List Mk} (h : DR w G n cap fl L W) {q : Nat} (hq : q < n) (i : Bool) : DR w G n cap fl (L.set q { L[q]! with inn := i }) (W.setCell ⟨G, q * 3, none⟩ (.bool i)) := by
  have hz := h.z
  have h1 := h.o.stored (q * 3 + 0) (.bool i)
  rw [mk_set0 _ q (by omega)] at h1
  exact h.grown h1.2 h1.1 (by simp [hz])
theorem DR.fresh {w W : World} {G n cap : Nat} {fl : Array Value} {L : List Mk} (h : DR w G n cap fl L W) {q : Nat} (hq : q < n) : DR w G n cap fl (freshL L q) ((W.setCell ⟨G, q * 3 + 1, none⟩ (.int .i64 0)).setCell ⟨G, q * 3 + 2, none⟩ (.int .i64 (-1))) := by
  have h1 := (h.set1 hq 0).set2 hq (-1)
  rw [set_here (by rw [h.z]; exact hq), List.set_set] at h1
  exact h1
theorem DR.at_ {w W : World} {G n cap : Nat} {fl : Array Value} {L : List Mk} (h : DR w G n cap fl L W) {k : Nat} (hk : k < n) :
    (W.cell? ⟨G, k * 3, none⟩ = some (.bool L[k]!.inn) ∧ W.cell? ⟨G, k * 3 + 1, none⟩ = some (.int .i64 L[k]!.age) ∧ W.cell? ⟨G, k * 3 + 2, none⟩ = some (.int .i64 L[k]!.due)) ∧ W.frozen? ⟨G, k * 3, none⟩ = false ∧ W.frozen? ⟨G, k * 3 + 1, none⟩ = false ∧ W.frozen? ⟨G, k * 3 + 2, none⟩ = false :=
  ⟨own_mk h.o h.z hk, h.o.frozenAt _, h.o.frozenAt _, h.o.frozenAt _⟩
/-- The marks behind the first j ties of a kind. -/
def partL (ts : List Ti) (k : Nat) (kd : Int) (L : List Mk) (j : Nat) : List Mk := ((ts.take j).filter (outB kd k)).foldl touchL L
theorem part_zero (ts : List Ti) (k : Nat) (kd : Int) (L : List Mk) : partL ts k kd L 0 = L := rfl
theorem part_all (ts : List Ti) (k : Nat) (kd : Int) (L : List Mk) : partL ts k kd L ts.length = kindL ts k L kd := by unfold partL kindL; rw [List.take_length]
theorem part_no {ts : List Ti} {k : Nat} {kd : Int} {L : List Mk} {j : Nat} (hj : j < ts.length) (h : outB kd k ts[j]! = false) : partL ts k kd L (j + 1) = partL ts k kd L j := by
  unfold partL; rw [take_next hj, List.filter_append, List.filter_cons_of_neg (by rw [h]; decide), List.filter_nil, List.append_nil]
theorem part_yes {ts : List Ti} {k : Nat} {kd : Int} {L : List Mk} {j : Nat} (hj : j < ts.length) (h : outB kd k ts[j]! = true) : partL ts k kd L (j + 1) = touchL (partL ts k kd L j) ts[j]! := by
  unfold partL; rw [take_next hj, List.filter_append, List.filter_cons_of_pos h, List.filter_nil, List.foldl_append]; rfl
theorem out_no {kd : Int} {k : Nat} {t : Ti} (h : (t.kind == kd) = false ∨ (t.fr == (k : Int)) = false) : outB kd k t = false := by
  unfold outB; rcases h with h | h
  · rw [h, Bool.false_and]
  · rw [h, Bool.and_false]
theorem touch_due {v : Mk} {t : Ti} {d : Int} (h : t.kind = 2) (hd : withI 0 t.time 1048576 = d) : touchM v t = { v with due := if v.due < 0 then d else min d v.due } := by
  rw [touch2 h, hd]
  by_cases h1 : v.due < 0
  · rw [if_pos (.inl h1), if_pos h1]
  · rw [if_neg h1]
    by_cases h2 : d < v.due
    · rw [if_pos (.inr h2), Int.min_eq_left (by omega)]
    · rw [if_neg (by omega), Int.min_eq_right (by omega)]
set_option maxRecDepth 100000 in
set_option maxHeartbeats 16000000 in
theorem rdo_any (w : World) (EA TA A : Option Addr) (en ec tc c : Nat) (ts : List Ti) (l : List Mk) (i : Int) (ht : Row w TA (ts.flatMap tiC)) (htl : ts.length ≤ 300) (hr : Row w A (l.flatMap mkC)) (hl : l.length ≤ 100) :
    Calls Try.prog 42 #[.agg #[.slice EA en ec, .slice TA ts.length tc], .slice A l.length c, .int .i64 i] w (DoEnd w en ts l i) := by
  obtain ⟨i0, hi, hz0, hz1, hz2⟩ := info_parts info_mk
  have HI := Lib.hid hi
  have HZ0 := Lib.hid hz0
  have HZ1 := Lib.hid hz1
  have HZ2 := Lib.hid hz2
  have B0 := Lib.hid (BX.start 38 w #[.slice EA en ec, .slice TA ts.length tc])
  have C := Lib.hid (rfits_any (w.alloc (.cells #[.slice EA en ec, .slice TA ts.length tc] 38)) EA TA A en ec ts.length tc c l (hr.below (Nat.le_refl _) B0.out.b) (by omega))
  have HT := Lib.hid ht
  have HR := Lib.hid hr
  have HS : Hid (doE en ts l i = if fitsB en l then (if hasI l.length i then (if enB ts l i.toNat then 0 else 11) else 3) else 1) := Lib.hid rfl
  clear ht hr hi hz0 hz1 hz2
  cases hf : fitsB en l with
  | false =>
    rw [hf] at C HS
    clear hf
    go_enter Try.func42, Try.ntmps42
    go_wp2_with fail
    refine C.out.mono ?_
    rintro e w3 ⟨rfl, hb3⟩
    have B3 := Lib.hid (B0.out.call hb3)
    clear hb3
    go_wp2_with fail
    go_ret2
    have e1 : doE en ts l i = 1 := HS.out
    exact ⟨B3.out.b, _, by rw [e1]; rfl, fun h => absurd (e1.symm.trans h) (by decide), fun _ => rfl⟩
  | true =>
    have HLen := Lib.hid (fits_len hf)
    have HFit := Lib.hid hf
    rw [hf, if_pos rfl] at HS
    rw [hf] at C
    clear hf
    by_cases hh : hasI l.length i = true
    · obtain ⟨k, hk, rfl⟩ := has_iff.1 hh
      rw [hh, if_pos rfl, Int.toNat_natCast] at HS
      clear hh
      have dk1 : decide ((k : Int) < 0) = false := decide_eq_false (by omega)
      have dk2 : decide (l.length ≤ k) = false := decide_eq_false (by omega)
      have hen : enabledB en ts l (k : Int) = enB ts l k := by unfold enabledB; rw [HFit.out, has_nat hk]; rfl
      have HEn := Lib.hid hen
      clear hen
      go_enter Try.func42, Try.ntmps42
      go_wp2_with fail
      refine C.out.mono ?_
      rintro e w3 ⟨rfl, hb3⟩
      have B3 := Lib.hid (B0.out.call hb3)
      obtain ⟨c0, c1⟩ := B3.out.cells
      have ll := B3.out.lt
      have E := Lib.hid (renabled_any w3 EA TA A en ec tc c ts l (k : Int) (HT.out.below (Nat.le_refl _) B3.out.b) htl (HR.out.below (Nat.le_refl _) B3.out.b) (by omega))
      rw [HEn.out] at E
      clear hb3 C B0
      cases he : enB ts l k with
      | false =>
        rw [he] at E HS
        clear he
        go_wp2_with fail
        refine E.out.mono ?_
        rintro e w5 ⟨rfl, hb5⟩
        have B5 := Lib.hid (B3.out.call hb5)
        clear hb5
        go_wp2_with fail
        go_ret2
        have e1 : doE en ts l k = 11 := HS.out
        exact ⟨B5.out.b, _, by rw [e1]; rfl, fun h => absurd (e1.symm.trans h) (by decide), fun _ => rfl⟩
      | true =>
        rw [he] at E HS
        clear he
        obtain ⟨b, off, rfl, hb, hc⟩ := HR.out (fun e => by have h9 := flat_len mkC 3 (fun _ => rfl) l; rw [e] at h9; simp at h9; omega)
        have HC := Lib.hid hc
        clear hc
        have HFL := Lib.hid (flat_len mkC 3 (fun _ => rfl) l)
        go_wp2_with fail
        refine E.out.mono ?_
        rintro e w5 ⟨rfl, hb5⟩
        have B5 := Lib.hid (B3.out.call hb5)
        have hz5 := B5.out.lt
        clear hb5 E B3 c0 c1 ll
        have V5 : Hid ((w5.alloc (.cells #[] 77)).ownsRow w.heap.size 77 3 (.slice (some ⟨w5.heap.size, 0, none⟩) 0 0) 0 []) := Lib.hid (own_empty (heap_new _ _) (Nat.le_of_lt hz5))
        have B6 := Lib.hid (B5.out.alloc (.cells #[] 77))
        have hsrc : ∀ j u, (l.flatMap mkC)[j]? = some u → (w5.alloc (.cells #[] 77)).cell? ((⟨b, off, none⟩ : Addr).add j) = some u := fun j u hj => by
          rw [Addr.add_lit]; exact (B6.out.b.cell (p := ⟨b, off + j, none⟩) hb).trans (HC.out j u hj)
        have HSrc := Lib.hid hsrc
        have HOne := Lib.hid (flat_one one_mk l)
        clear hsrc
        go_wp2_with (at_builtin; refine wpList_append_own _ rfl (.tmp 33) (.tmp 34) 57 rfl w.heap.size 77 i0 _ 3 24 Try.underlying57 HI.out HZ0.out HZ1.out HZ2.out rfl (by omega) _ _ _ rfl V5.out ⟨b, off, none⟩ l.length c (l.flatMap mkC) rfl HFL.out ?c1 HOne.out ?c3 ?c4 ?c5 ?_)
        case c1 => exact HSrc.out
        case c3 => unfold maxLen; omega
        case c4 => omega
        case c5 => first | exact Nat.le_of_lt B6.out.lt | omega
        intro v' w6 hown hgrow _
        have hown2 : w6.ownsRow w.heap.size 77 3 v' l.length (l.flatMap mkC) := by simpa using hown
        obtain ⟨G, cap, rfl, hGB, hGz⟩ := own_head hown2 (by omega)
        have D6 : Hid (DR w G l.length cap #[.slice EA en ec, .slice TA ts.length tc] l w6) := Lib.hid ⟨⟨B6.out.b.grown hgrow (Nat.le_of_lt B6.out.lt) (fun j hj => (V5.out.lt j hj).1), (hgrow.block _ B6.out.lt (fun e => own_far V5.out B6.out.f (by decide) e.symm)).trans B6.out.f⟩, hown2, rfl⟩
        clear hown hgrow hown2 V5 B6 B5 HSrc hz5
        obtain ⟨⟨a0, a1, a2⟩, f0, f1, f2⟩ := D6.out.at_ hk
        have D7 := Lib.hid (D6.out.fresh hk)
        have hk0 : (0 : Int) ≤ (k : Int) := Int.natCast_nonneg _
        have hk1 : (k : Int) < (l.length : Int) := by omega
        go_wp2_with fail
        have E2 : Hid (doL ts l k = kindL ts k (kindL ts k (kindL ts k (freshL l k) 2) 4) 3) := Lib.hid rfl
        have S7 : Hid (DR w G l.length cap #[.slice EA en ec, .slice TA ts.length tc] (partL ts k 2 (freshL l k) 0) ((w6.setCell ⟨G, k * 3 + 1, none⟩ (.int .i64 0)).setCell ⟨G, k * 3 + 2, none⟩ (.int .i64 (-1)))) := D7
        generalize freshL l k = LA at *
        clear D6 D7 a0 a1 a2 f0 f1 f2
        go_loopw [9] (fun i wr => ∃ j : Nat, j ≤ ts.length ∧ i = .int .i64 j ∧ Hid (DR w G l.length cap #[.slice EA en ec, .slice TA ts.length tc] (partL ts k 2 LA j) wr)) (fun i _ => ts.length - (intOf i).toNat)
        case atStart => exact ⟨0, Nat.zero_le _, rfl, S7⟩
        case round =>
          clear S7
          obtain ⟨j, hj, rfl, HD⟩ := hrel
          obtain ⟨c0, c1⟩ := HD.out.x.cells
          have ll := HD.out.x.lt
          have hj0 : (0 : Int) ≤ (j : Int) := Int.natCast_nonneg _
          by_cases hlt : j < ts.length
          · obtain ⟨bt, ot, rfl, hbt, hct⟩ := HT.out.at_ (k := 4) (fun _ => rfl) (by omega) hlt
            have t0 := hct 0 _ rfl
            have t1 := hct 1 _ rfl
            have t2 := hct 2 _ rfl
            have t3 := hct 3 _ rfl
            rw [Nat.add_zero] at t0
            rw [← HD.out.x.b.cell (p := ⟨bt, _, none⟩) hbt] at t0 t1 t2 t3
            have hbtz : bt < wr.heap.size := by omega
            have hj1 : (j : Int) < (ts.length : Int) := by omega
            have HNo := fun h => Lib.hid (part_no (k := k) (kd := 2) (L := LA) hlt h)
            have HYes := fun h => Lib.hid (part_yes (k := k) (kd := 2) (L := LA) hlt h)
            generalize ts[j]! = x at *
            generalize partL ts k 2 LA j = L at *
            obtain ⟨xk, xf, xt, xm⟩ := x
            simp only at t0 t1 t2 t3
            have HDx := Lib.hid (HD.out.alloc (.cells #[.int .i64 xk, .int .i64 xf, .int .i64 xt, .int .i64 xm] 101))
            have HX := Lib.hid (heap_new wr (.cells #[.int .i64 xk, .int .i64 xf, .int .i64 xt, .int .i64 xm] 101))
            have T := Lib.hid (two_any EA (some ⟨bt, ot, none⟩) en ec ts.length tc ⟨xk, xf, xt, xm⟩ (wr.alloc (.cells #[.int .i64 xk, .int .i64 xf, .int .i64 xt, .int .i64 xm] 101)))
            clear hct
            by_cases h1 : xk = 2
            · subst h1
              by_cases h2 : xf = (k : Int)
              · subst h2
                have HN := HYes (by unfold outB; simp)
                have htw : twoB en ⟨2, k, xt, xm⟩ = hasI l.length xt := by unfold twoB; rw [← HLen.out, has_nat hk]; rfl
                rw [htw] at T
                clear HNo HYes htw
                cases hto : hasI l.length xt with
                | false =>
                  rw [hto] at T
                  rw [touch_no (by rw [HD.out.z]; exact hto)] at HN
                  clear hto
                  go_wp2_with fail
                  refine T.out.mono ?_
                  rintro e w9 ⟨rfl, hb9⟩
                  have D9 := Lib.hid (HDx.out.call hb9)
                  clear hb9
                  go_wp2_with fail
                  go_roundw
                  case rel => exact ⟨j + 1, hlt, by go_num, by rw [HN.out]; exact D9⟩
                  case measure => simp [intOf]; omega
                | true =>
                  rw [hto] at T
                  obtain ⟨q, hq, hqe⟩ := has_iff.1 hto
                  obtain rfl : xt = (q : Int) := hqe
                  rw [touch_yes (q := q) rfl (by rw [HD.out.z]; exact hq)] at HN
                  clear hto
                  have hq0 : (0 : Int) ≤ (q : Int) := Int.natCast_nonneg _
                  have hq1 : (q : Int) < (l.length : Int) := by omega
                  obtain ⟨d, hd⟩ : ∃ d, withI 0 xm 1048576 = d := ⟨_, rfl⟩
                  rw [touch_due (d := d) rfl hd] at HN
                  have hcase : (xm < 0 ∧ d = 0) ∨ (0 ≤ xm ∧ xm ≤ 1048576 ∧ d = xm) ∨ (1048576 < xm ∧ d = 1048576) := by unfold withI at hd; omega
                  clear hd
                  rcases hcase with ⟨g1, rfl⟩ | ⟨g1, g2, rfl⟩ | ⟨g1, rfl⟩
                  · by_cases u1 : L[q]!.due < 0
                    · rw [if_pos u1] at HN
                      go_wp2_with fail
                      refine T.out.mono ?_
                      rintro e w9 ⟨rfl, hb9⟩
                      have D9 := Lib.hid (HDx.out.call hb9)
                      have hz9 := hb9.size
                      rw [World.size_alloc] at hz9
                      have n9 := (hb9.block wr.heap.size (by rw [World.size_alloc]; omega)).trans HX.out
                      have y0 : w9.cell? ⟨wr.heap.size, 0, none⟩ = some (.int .i64 2) := cell_blk n9 rfl
                      have y1 : w9.cell? ⟨wr.heap.size, 1, none⟩ = some (.int .i64 k) := cell_blk n9 rfl
                      have y2 : w9.cell? ⟨wr.heap.size, 2, none⟩ = some (.int .i64 q) := cell_blk n9 rfl
                      have y3 : w9.cell? ⟨wr.heap.size, 3, none⟩ = some (.int .i64 xm) := cell_blk n9 rfl
                      obtain ⟨⟨a0, a1, a2⟩, f0, f1, f2⟩ := D9.out.at_ hq
                      have D10 := Lib.hid (D9.out.set2 hq 0)
                      rw [← HN.out] at D10
                      generalize L[q]! = z at *
                      clear hb9 n9 t0 t1 t2 t3 HN
                      go_wp2_with fail
                      go_roundw
                      case rel => exact ⟨j + 1, hlt, by go_num, D10⟩
                      case measure => simp [intOf]; omega
                    · rw [if_neg u1] at HN
                      by_cases u2 : 0 ≤ L[q]!.due
                      · rw [Int.min_eq_left u2] at HN
                        go_wp2_with fail
                        refine T.out.mono ?_
                        rintro e w9 ⟨rfl, hb9⟩
                        have D9 := Lib.hid (HDx.out.call hb9)
                        have hz9 := hb9.size
                        rw [World.size_alloc] at hz9
                        have n9 := (hb9.block wr.heap.size (by rw [World.size_alloc]; omega)).trans HX.out
                        have y0 : w9.cell? ⟨wr.heap.size, 0, none⟩ = some (.int .i64 2) := cell_blk n9 rfl
                        have y1 : w9.cell? ⟨wr.heap.size, 1, none⟩ = some (.int .i64 k) := cell_blk n9 rfl
                        have y2 : w9.cell? ⟨wr.heap.size, 2, none⟩ = some (.int .i64 q) := cell_blk n9 rfl
                        have y3 : w9.cell? ⟨wr.heap.size, 3, none⟩ = some (.int .i64 xm) := cell_blk n9 rfl
                        obtain ⟨⟨a0, a1, a2⟩, f0, f1, f2⟩ := D9.out.at_ hq
                        have D10 := Lib.hid (D9.out.set2 hq 0)
                        rw [← HN.out] at D10
                        generalize L[q]! = z at *
                        clear hb9 n9 t0 t1 t2 t3 HN
                        go_wp2_with fail
                        go_roundw
                        case rel => exact ⟨j + 1, hlt, by go_num, D10⟩
                        case measure => simp [intOf]; omega
                      · exfalso; omega
                  · by_cases u1 : L[q]!.due < 0
                    · rw [if_pos u1] at HN
                      go_wp2_with fail
                      refine T.out.mono ?_
                      rintro e w9 ⟨rfl, hb9⟩
                      have D9 := Lib.hid (HDx.out.call hb9)
                      have hz9 := hb9.size
                      rw [World.size_alloc] at hz9
                      have n9 := (hb9.block wr.heap.size (by rw [World.size_alloc]; omega)).trans HX.out
                      have y0 : w9.cell? ⟨wr.heap.size, 0, none⟩ = some (.int .i64 2) := cell_blk n9 rfl
                      have y1 : w9.cell? ⟨wr.heap.size, 1, none⟩ = some (.int .i64 k) := cell_blk n9 rfl
                      have y2 : w9.cell? ⟨wr.heap.size, 2, none⟩ = some (.int .i64 q) := cell_blk n9 rfl
                      have y3 : w9.cell? ⟨wr.heap.size, 3, none⟩ = some (.int .i64 d) := cell_blk n9 rfl
                      obtain ⟨⟨a0, a1, a2⟩, f0, f1, f2⟩ := D9.out.at_ hq
                      have D10 := Lib.hid (D9.out.set2 hq d)
                      rw [← HN.out] at D10
                      generalize L[q]! = z at *
                      clear hb9 n9 t0 t1 t2 t3 HN
                      go_wp2_with fail
                      go_roundw
                      case rel => exact ⟨j + 1, hlt, by go_num, D10⟩
                      case measure => simp [intOf]; omega
                    · rw [if_neg u1] at HN
                      by_cases u2 : d ≤ L[q]!.due
                      · rw [Int.min_eq_left u2] at HN
                        go_wp2_with fail
                        refine T.out.mono ?_
                        rintro e w9 ⟨rfl, hb9⟩
                        have D9 := Lib.hid (HDx.out.call hb9)
                        have hz9 := hb9.size
                        rw [World.size_alloc] at hz9
                        have n9 := (hb9.block wr.heap.size (by rw [World.size_alloc]; omega)).trans HX.out
                        have y0 : w9.cell? ⟨wr.heap.size, 0, none⟩ = some (.int .i64 2) := cell_blk n9 rfl
                        have y1 : w9.cell? ⟨wr.heap.size, 1, none⟩ = some (.int .i64 k) := cell_blk n9 rfl
                        have y2 : w9.cell? ⟨wr.heap.size, 2, none⟩ = some (.int .i64 q) := cell_blk n9 rfl
                        have y3 : w9.cell? ⟨wr.heap.size, 3, none⟩ = some (.int .i64 d) := cell_blk n9 rfl
                        obtain ⟨⟨a0, a1, a2⟩, f0, f1, f2⟩ := D9.out.at_ hq
                        have D10 := Lib.hid (D9.out.set2 hq d)
                        rw [← HN.out] at D10
                        generalize L[q]! = z at *
                        clear hb9 n9 t0 t1 t2 t3 HN
                        go_wp2_with fail
                        go_roundw
                        case rel => exact ⟨j + 1, hlt, by go_num, D10⟩
                        case measure => simp [intOf]; omega
                      · rw [Int.min_eq_right (by omega)] at HN
                        go_wp2_with fail
                        refine T.out.mono ?_
                        rintro e w9 ⟨rfl, hb9⟩
                        have D9 := Lib.hid (HDx.out.call hb9)
                        have hz9 := hb9.size
                        rw [World.size_alloc] at hz9
                        have n9 := (hb9.block wr.heap.size (by rw [World.size_alloc]; omega)).trans HX.out
                        have y0 : w9.cell? ⟨wr.heap.size, 0, none⟩ = some (.int .i64 2) := cell_blk n9 rfl
                        have y1 : w9.cell? ⟨wr.heap.size, 1, none⟩ = some (.int .i64 k) := cell_blk n9 rfl
                        have y2 : w9.cell? ⟨wr.heap.size, 2, none⟩ = some (.int .i64 q) := cell_blk n9 rfl
                        have y3 : w9.cell? ⟨wr.heap.size, 3, none⟩ = some (.int .i64 d) := cell_blk n9 rfl
                        obtain ⟨⟨a0, a1, a2⟩, f0, f1, f2⟩ := D9.out.at_ hq
                        have D10 := Lib.hid (D9.out.set2 hq L[q]!.due)
                        rw [← HN.out] at D10
                        generalize L[q]! = z at *
                        clear hb9 n9 t0 t1 t2 t3 HN
                        go_wp2_with fail
                        go_roundw
                        case rel => exact ⟨j + 1, hlt, by go_num, D10⟩
                        case measure => simp [intOf]; omega
                  · by_cases u1 : L[q]!.due < 0
                    · rw [if_pos u1] at HN
                      go_wp2_with fail
                      refine T.out.mono ?_
                      rintro e w9 ⟨rfl, hb9⟩
                      have D9 := Lib.hid (HDx.out.call hb9)
                      have hz9 := hb9.size
                      rw [World.size_alloc] at hz9
                      have n9 := (hb9.block wr.heap.size (by rw [World.size_alloc]; omega)).trans HX.out
                      have y0 : w9.cell? ⟨wr.heap.size, 0, none⟩ = some (.int .i64 2) := cell_blk n9 rfl
                      have y1 : w9.cell? ⟨wr.heap.size, 1, none⟩ = some (.int .i64 k) := cell_blk n9 rfl
                      have y2 : w9.cell? ⟨wr.heap.size, 2, none⟩ = some (.int .i64 q) := cell_blk n9 rfl
                      have y3 : w9.cell? ⟨wr.heap.size, 3, none⟩ = some (.int .i64 xm) := cell_blk n9 rfl
                      obtain ⟨⟨a0, a1, a2⟩, f0, f1, f2⟩ := D9.out.at_ hq
                      have D10 := Lib.hid (D9.out.set2 hq 1048576)
                      rw [← HN.out] at D10
                      generalize L[q]! = z at *
                      clear hb9 n9 t0 t1 t2 t3 HN
                      go_wp2_with fail
                      go_roundw
                      case rel => exact ⟨j + 1, hlt, by go_num, D10⟩
                      case measure => simp [intOf]; omega
                    · rw [if_neg u1] at HN
                      by_cases u2 : 1048576 ≤ L[q]!.due
                      · rw [Int.min_eq_left u2] at HN
                        go_wp2_with fail
                        refine T.out.mono ?_
                        rintro e w9 ⟨rfl, hb9⟩
                        have D9 := Lib.hid (HDx.out.call hb9)
                        have hz9 := hb9.size
                        rw [World.size_alloc] at hz9
                        have n9 := (hb9.block wr.heap.size (by rw [World.size_alloc]; omega)).trans HX.out
                        have y0 : w9.cell? ⟨wr.heap.size, 0, none⟩ = some (.int .i64 2) := cell_blk n9 rfl
                        have y1 : w9.cell? ⟨wr.heap.size, 1, none⟩ = some (.int .i64 k) := cell_blk n9 rfl
                        have y2 : w9.cell? ⟨wr.heap.size, 2, none⟩ = some (.int .i64 q) := cell_blk n9 rfl
                        have y3 : w9.cell? ⟨wr.heap.size, 3, none⟩ = some (.int .i64 xm) := cell_blk n9 rfl
                        obtain ⟨⟨a0, a1, a2⟩, f0, f1, f2⟩ := D9.out.at_ hq
                        have D10 := Lib.hid (D9.out.set2 hq 1048576)
                        rw [← HN.out] at D10
                        generalize L[q]! = z at *
                        clear hb9 n9 t0 t1 t2 t3 HN
                        go_wp2_with fail
                        go_roundw
                        case rel => exact ⟨j + 1, hlt, by go_num, D10⟩
                        case measure => simp [intOf]; omega
                      · rw [Int.min_eq_right (by omega)] at HN
                        go_wp2_with fail
                        refine T.out.mono ?_
                        rintro e w9 ⟨rfl, hb9⟩
                        have D9 := Lib.hid (HDx.out.call hb9)
                        have hz9 := hb9.size
                        rw [World.size_alloc] at hz9
                        have n9 := (hb9.block wr.heap.size (by rw [World.size_alloc]; omega)).trans HX.out
                        have y0 : w9.cell? ⟨wr.heap.size, 0, none⟩ = some (.int .i64 2) := cell_blk n9 rfl
                        have y1 : w9.cell? ⟨wr.heap.size, 1, none⟩ = some (.int .i64 k) := cell_blk n9 rfl
                        have y2 : w9.cell? ⟨wr.heap.size, 2, none⟩ = some (.int .i64 q) := cell_blk n9 rfl
                        have y3 : w9.cell? ⟨wr.heap.size, 3, none⟩ = some (.int .i64 xm) := cell_blk n9 rfl
                        obtain ⟨⟨a0, a1, a2⟩, f0, f1, f2⟩ := D9.out.at_ hq
                        have D10 := Lib.hid (D9.out.set2 hq L[q]!.due)
                        rw [← HN.out] at D10
                        generalize L[q]! = z at *
                        clear hb9 n9 t0 t1 t2 t3 HN
                        go_wp2_with fail
                        go_roundw
                        case rel => exact ⟨j + 1, hlt, by go_num, D10⟩
                        case measure => simp [intOf]; omega
              · have e2 : (xf == (k : Int)) = false := beq_eq_false_iff_ne.2 h2
                have HN := HNo (out_no (.inr e2))
                clear HNo HYes h2
                go_wp2_with fail
                go_roundw
                case rel => exact ⟨j + 1, hlt, by go_num, by rw [HN.out]; exact HDx⟩
                case measure => simp [intOf]; omega
            · have e1 : (xk == 2) = false := beq_eq_false_iff_ne.2 h1
              have HN := HNo (out_no (.inl e1))
              clear HNo HYes h1
              go_wp2_with fail
              go_roundw
              case rel => exact ⟨j + 1, hlt, by go_num, by rw [HN.out]; exact HDx⟩
              case measure => simp [intOf]; omega
          · obtain rfl : j = ts.length := by omega
            rw [part_all] at HD
            have S8 : Hid (DR w G l.length cap #[.slice EA en ec, .slice TA ts.length tc] (partL ts k 4 (kindL ts k LA 2) 0) wr) := HD
            clear HD
            generalize kindL ts k LA 2 = LB at *
            go_wp2_with fail
            clear c0 c1 ll
            go_loopw [12] (fun i wr => ∃ j : Nat, j ≤ ts.length ∧ i = .int .i64 j ∧ Hid (DR w G l.length cap #[.slice EA en ec, .slice TA ts.length tc] (partL ts k 4 LB j) wr)) (fun i _ => ts.length - (intOf i).toNat)
            case atStart => exact ⟨0, Nat.zero_le _, rfl, S8⟩
            case round =>
              clear S8
              obtain ⟨j, hj, rfl, HD⟩ := hrel
              obtain ⟨c0, c1⟩ := HD.out.x.cells
              have ll := HD.out.x.lt
              have hj0 : (0 : Int) ≤ (j : Int) := Int.natCast_nonneg _
              by_cases hlt : j < ts.length
              · obtain ⟨bt, ot, rfl, hbt, hct⟩ := HT.out.at_ (k := 4) (fun _ => rfl) (by omega) hlt
                have t0 := hct 0 _ rfl
                have t1 := hct 1 _ rfl
                have t2 := hct 2 _ rfl
                have t3 := hct 3 _ rfl
                rw [Nat.add_zero] at t0
                rw [← HD.out.x.b.cell (p := ⟨bt, _, none⟩) hbt] at t0 t1 t2 t3
                have hbtz : bt < wr.heap.size := by omega
                have hj1 : (j : Int) < (ts.length : Int) := by omega
                have HNo := fun h => Lib.hid (part_no (k := k) (kd := 4) (L := LB) hlt h)
                have HYes := fun h => Lib.hid (part_yes (k := k) (kd := 4) (L := LB) hlt h)
                generalize ts[j]! = x at *
                generalize partL ts k 4 LB j = L at *
                obtain ⟨xk, xf, xt, xm⟩ := x
                simp only at t0 t1 t2 t3
                have HDx := Lib.hid (HD.out.alloc (.cells #[.int .i64 xk, .int .i64 xf, .int .i64 xt, .int .i64 xm] 101))
                have HX := Lib.hid (heap_new wr (.cells #[.int .i64 xk, .int .i64 xf, .int .i64 xt, .int .i64 xm] 101))
                have T := Lib.hid (two_any EA (some ⟨bt, ot, none⟩) en ec ts.length tc ⟨xk, xf, xt, xm⟩ (wr.alloc (.cells #[.int .i64 xk, .int .i64 xf, .int .i64 xt, .int .i64 xm] 101)))
                clear hct
                by_cases h1 : xk = 4
                · subst h1
                  by_cases h2 : xf = (k : Int)
                  · subst h2
                    have HN := HYes (by unfold outB; simp)
                    have htw : twoB en ⟨4, k, xt, xm⟩ = hasI l.length xt := by unfold twoB; rw [← HLen.out, has_nat hk]; rfl
                    rw [htw] at T
                    clear HNo HYes htw
                    cases hto : hasI l.length xt with
                    | false =>
                      rw [hto] at T
                      rw [touch_no (by rw [HD.out.z]; exact hto)] at HN
                      clear hto
                      go_wp2_with fail
                      refine T.out.mono ?_
                      rintro e w9 ⟨rfl, hb9⟩
                      have D9 := Lib.hid (HDx.out.call hb9)
                      clear hb9
                      go_wp2_with fail
                      go_roundw
                      case rel => exact ⟨j + 1, hlt, by go_num, by rw [HN.out]; exact D9⟩
                      case measure => simp [intOf]; omega
                    | true =>
                      rw [hto] at T
                      obtain ⟨q, hq, hqe⟩ := has_iff.1 hto
                      obtain rfl : xt = (q : Int) := hqe
                      rw [touch_yes (q := q) rfl (by rw [HD.out.z]; exact hq)] at HN
                      clear hto
                      have hq0 : (0 : Int) ≤ (q : Int) := Int.natCast_nonneg _
                      have hq1 : (q : Int) < (l.length : Int) := by omega
                      rw [touch4 rfl] at HN
                      go_wp2_with fail
                      refine T.out.mono ?_
                      rintro e w9 ⟨rfl, hb9⟩
                      have D9 := Lib.hid (HDx.out.call hb9)
                      have hz9 := hb9.size
                      rw [World.size_alloc] at hz9
                      have n9 := (hb9.block wr.heap.size (by rw [World.size_alloc]; omega)).trans HX.out
                      have y0 : w9.cell? ⟨wr.heap.size, 0, none⟩ = some (.int .i64 4) := cell_blk n9 rfl
                      have y1 : w9.cell? ⟨wr.heap.size, 1, none⟩ = some (.int .i64 k) := cell_blk n9 rfl
                      have y2 : w9.cell? ⟨wr.heap.size, 2, none⟩ = some (.int .i64 q) := cell_blk n9 rfl
                      have y3 : w9.cell? ⟨wr.heap.size, 3, none⟩ = some (.int .i64 xm) := cell_blk n9 rfl
                      obtain ⟨⟨a0, a1, a2⟩, f0, f1, f2⟩ := D9.out.at_ hq
                      have D10 := Lib.hid (D9.out.set0 hq false)
                      rw [← HN.out] at D10
                      generalize L[q]! = z at *
                      clear hb9 n9 t0 t1 t2 t3 HN
                      go_wp2_with fail
                      go_roundw
                      case rel => exact ⟨j + 1, hlt, by go_num, D10⟩
                      case measure => simp [intOf]; omega
                  · have e2 : (xf == (k : Int)) = false := beq_eq_false_iff_ne.2 h2
                    have HN := HNo (out_no (.inr e2))
                    clear HNo HYes h2
                    go_wp2_with fail
                    go_roundw
                    case rel => exact ⟨j + 1, hlt, by go_num, by rw [HN.out]; exact HDx⟩
                    case measure => simp [intOf]; omega
                · have e1 : (xk == 4) = false := beq_eq_false_iff_ne.2 h1
                  have HN := HNo (out_no (.inl e1))
                  clear HNo HYes h1
                  go_wp2_with fail
                  go_roundw
                  case rel => exact ⟨j + 1, hlt, by go_num, by rw [HN.out]; exact HDx⟩
                  case measure => simp [intOf]; omega
              · obtain rfl : j = ts.length := by omega
                rw [part_all] at HD
                have S9 : Hid (DR w G l.length cap #[.slice EA en ec, .slice TA ts.length tc] (partL ts k 3 (kindL ts k LB 4) 0) wr) := HD
                clear HD
                generalize kindL ts k LB 4 = LC at *
                go_wp2_with fail
                clear c0 c1 ll
                go_loopw [14] (fun i wr => ∃ j : Nat, j ≤ ts.length ∧ i = .int .i64 j ∧ Hid (DR w G l.length cap #[.slice EA en ec, .slice TA ts.length tc] (partL ts k 3 LC j) wr)) (fun i _ => ts.length - (intOf i).toNat)
                case atStart => exact ⟨0, Nat.zero_le _, rfl, S9⟩
                case round =>
                  clear S9
                  obtain ⟨j, hj, rfl, HD⟩ := hrel
                  obtain ⟨c0, c1⟩ := HD.out.x.cells
                  have ll := HD.out.x.lt
                  have hj0 : (0 : Int) ≤ (j : Int) := Int.natCast_nonneg _
                  by_cases hlt : j < ts.length
                  · obtain ⟨bt, ot, rfl, hbt, hct⟩ := HT.out.at_ (k := 4) (fun _ => rfl) (by omega) hlt
                    have t0 := hct 0 _ rfl
                    have t1 := hct 1 _ rfl
                    have t2 := hct 2 _ rfl
                    have t3 := hct 3 _ rfl
                    rw [Nat.add_zero] at t0
                    rw [← HD.out.x.b.cell (p := ⟨bt, _, none⟩) hbt] at t0 t1 t2 t3
                    have hbtz : bt < wr.heap.size := by omega
                    have hj1 : (j : Int) < (ts.length : Int) := by omega
                    have HNo := fun h => Lib.hid (part_no (k := k) (kd := 3) (L := LC) hlt h)
                    have HYes := fun h => Lib.hid (part_yes (k := k) (kd := 3) (L := LC) hlt h)
                    generalize ts[j]! = x at *
                    generalize partL ts k 3 LC j = L at *
                    obtain ⟨xk, xf, xt, xm⟩ := x
                    simp only at t0 t1 t2 t3
                    have HDx := Lib.hid (HD.out.alloc (.cells #[.int .i64 xk, .int .i64 xf, .int .i64 xt, .int .i64 xm] 101))
                    have HX := Lib.hid (heap_new wr (.cells #[.int .i64 xk, .int .i64 xf, .int .i64 xt, .int .i64 xm] 101))
                    have T := Lib.hid (two_any EA (some ⟨bt, ot, none⟩) en ec ts.length tc ⟨xk, xf, xt, xm⟩ (wr.alloc (.cells #[.int .i64 xk, .int .i64 xf, .int .i64 xt, .int .i64 xm] 101)))
                    clear hct
                    by_cases h1 : xk = 3
                    · subst h1
                      by_cases h2 : xf = (k : Int)
                      · subst h2
                        have HN := HYes (by unfold outB; simp)
                        have htw : twoB en ⟨3, k, xt, xm⟩ = hasI l.length xt := by unfold twoB; rw [← HLen.out, has_nat hk]; rfl
                        rw [htw] at T
                        clear HNo HYes htw
                        cases hto : hasI l.length xt with
                        | false =>
                          rw [hto] at T
                          rw [touch_no (by rw [HD.out.z]; exact hto)] at HN
                          clear hto
                          go_wp2_with fail
                          refine T.out.mono ?_
                          rintro e w9 ⟨rfl, hb9⟩
                          have D9 := Lib.hid (HDx.out.call hb9)
                          clear hb9
                          go_wp2_with fail
                          go_roundw
                          case rel => exact ⟨j + 1, hlt, by go_num, by rw [HN.out]; exact D9⟩
                          case measure => simp [intOf]; omega
                        | true =>
                          rw [hto] at T
                          obtain ⟨q, hq, hqe⟩ := has_iff.1 hto
                          obtain rfl : xt = (q : Int) := hqe
                          rw [touch_yes (q := q) rfl (by rw [HD.out.z]; exact hq)] at HN
                          clear hto
                          have hq0 : (0 : Int) ≤ (q : Int) := Int.natCast_nonneg _
                          have hq1 : (q : Int) < (l.length : Int) := by omega
                          rw [touch3 rfl] at HN
                          go_wp2_with fail
                          refine T.out.mono ?_
                          rintro e w9 ⟨rfl, hb9⟩
                          have D9 := Lib.hid (HDx.out.call hb9)
                          have hz9 := hb9.size
                          rw [World.size_alloc] at hz9
                          have n9 := (hb9.block wr.heap.size (by rw [World.size_alloc]; omega)).trans HX.out
                          have y0 : w9.cell? ⟨wr.heap.size, 0, none⟩ = some (.int .i64 3) := cell_blk n9 rfl
                          have y1 : w9.cell? ⟨wr.heap.size, 1, none⟩ = some (.int .i64 k) := cell_blk n9 rfl
                          have y2 : w9.cell? ⟨wr.heap.size, 2, none⟩ = some (.int .i64 q) := cell_blk n9 rfl
                          have y3 : w9.cell? ⟨wr.heap.size, 3, none⟩ = some (.int .i64 xm) := cell_blk n9 rfl
                          obtain ⟨⟨a0, a1, a2⟩, f0, f1, f2⟩ := D9.out.at_ hq
                          have D10 := Lib.hid (D9.out.set0 hq true)
                          rw [← HN.out] at D10
                          generalize L[q]! = z at *
                          clear hb9 n9 t0 t1 t2 t3 HN
                          go_wp2_with fail
                          go_roundw
                          case rel => exact ⟨j + 1, hlt, by go_num, D10⟩
                          case measure => simp [intOf]; omega
                      · have e2 : (xf == (k : Int)) = false := beq_eq_false_iff_ne.2 h2
                        have HN := HNo (out_no (.inr e2))
                        clear HNo HYes h2
                        go_wp2_with fail
                        go_roundw
                        case rel => exact ⟨j + 1, hlt, by go_num, by rw [HN.out]; exact HDx⟩
                        case measure => simp [intOf]; omega
                    · have e1 : (xk == 3) = false := beq_eq_false_iff_ne.2 h1
                      have HN := HNo (out_no (.inl e1))
                      clear HNo HYes h1
                      go_wp2_with fail
                      go_roundw
                      case rel => exact ⟨j + 1, hlt, by go_num, by rw [HN.out]; exact HDx⟩
                      case measure => simp [intOf]; omega
                  · obtain rfl : j = ts.length := by omega
                    rw [part_all, ← E2.out] at HD
                    have e1 : doE en ts l k = 0 := HS.out
                    go_wp2_with fail
                    go_ret2
                    exact ⟨HD.out.x.b, _, by rw [e1]; rfl, fun _ => HD.out.o, fun h => absurd e1 h⟩
    · have hh2 : hasI l.length i = false := by simpa using hh
      rw [hh2] at HS
      have e1 : doE en ts l i = 3 := HS.out
      have E1 := Lib.hid e1
      clear hh e1 HS
      by_cases h0 : 0 ≤ i
      · have h1 : ¬ i < (l.length : Int) := by
          intro h; unfold hasI at hh2; rw [decide_eq_true h0, decide_eq_true h] at hh2; cases hh2
        clear hh2
        go_enter Try.func42, Try.ntmps42
        go_wp2_with fail
        refine C.out.mono ?_
        rintro e w3 ⟨rfl, hb3⟩
        have B3 := Lib.hid (B0.out.call hb3)
        clear hb3
        go_wp2_with fail
        go_ret2
        exact ⟨B3.out.b, _, by rw [E1.out]; rfl, fun h => absurd (E1.out.symm.trans h) (by decide), fun _ => rfl⟩
      · clear hh2
        go_enter Try.func42, Try.ntmps42
        go_wp2_with fail
        refine C.out.mono ?_
        rintro e w3 ⟨rfl, hb3⟩
        have B3 := Lib.hid (B0.out.call hb3)
        clear hb3
        go_wp2_with fail
        go_ret2
        exact ⟨B3.out.b, _, by rw [E1.out]; rfl, fun h => absurd (E1.out.symm.trans h) (by decide), fun _ => rfl⟩
end Go.Proofs.Ytplplkchibefjaa.M5
