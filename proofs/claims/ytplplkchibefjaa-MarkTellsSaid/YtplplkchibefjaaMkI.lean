/-
  What Do keeps; contract of Do.
-/
import Derived.Test.YtplplkchibefjaaMkH
import Derived.Test.YtplplkchibefjaaFlQ
namespace Go.Proofs.Ytplplkchibefjaa.M5
open Go.RowKit Go.Shelf Go.Proofs.Ytplplkchibefjaa.B

theorem outB_eq : @F4.outB = @outB := rfl
/-- What Do has made, and what stands as it did. -/
structure DI (w : World) (G n : Nat) (fl : Array Value) (L : List Mk) (W : World) : Prop where
  b : Below w.heap.size w W
  f : W.heap[w.heap.size]? = some (.cells fl 32 (0, 0))
  o : W.ownsRow w.heap.size 77 3 (.slice (some ⟨G, 0, none⟩) n n) n (L.flatMap mkC)
  g : w.heap.size < G
  z : L.length = n
theorem DI.lt {w W : World} {G n : Nat} {fl : Array Value} {L : List Mk} (h : DI w G n fl L W) : w.heap.size < W.heap.size := blk_lt h.f
theorem DI.below {w W W' : World} {G n : Nat} {fl : Array Value} {L : List Mk} (h : DI w G n fl L W) (hb : Below W.heap.size W W') : DI w G n fl L W' :=
  ⟨h.b.trans (hb.mono (Nat.le_of_lt h.lt)), (hb.block _ h.lt).trans h.f, own_below h.o hb, h.g, h.z⟩
theorem DI.grown {w W W' : World} {G n : Nat} {fl : Array Value} {L L' : List Mk} (h : DI w G n fl L W) (hg : W.grownBy W' (some G)) (ho : W'.ownsRow w.heap.size 77 3 (.slice (some ⟨G, 0, none⟩) n n) n (L'.flatMap mkC)) (hz : L'.length = n) : DI w G n fl L' W' :=
  ⟨h.b.grown hg (Nat.le_of_lt h.lt) (fun j e => by cases e; exact Nat.le_of_lt h.g), (hg.block _ h.lt (fun e => by have := h.g; injection e with e; omega)).trans h.f, ho, h.g, hz⟩
theorem DI.put {w W : World} {G n : Nat} {fl : Array Value} {L : List Mk} (h : DI w G n fl L W) {k : Nat} (hk : k < n) (y : Mk) :
    DI w G n fl (L.set k y) (((W.setCell ⟨G, k * 3, none⟩ (.bool y.inn)).setCell ⟨G, k * 3 + 1, none⟩ (.int .i64 y.age)).setCell ⟨G, k * 3 + 2, none⟩ (.int .i64 y.due)) := by
  have hp := own_put h.o (k := k) (by rw [h.z]; exact hk) y
  exact h.grown hp.2 hp.1 (by rw [List.length_set, h.z])
theorem DI.fresh {w W : World} {G n : Nat} {fl : Array Value} {L : List Mk} (h : DI w G n fl L W) {k : Nat} (hk : k < n) :
    DI w G n fl (freshL L k) ((W.setCell ⟨G, k * 3 + 1, none⟩ (.int .i64 0)).setCell ⟨G, k * 3 + 2, none⟩ (.int .i64 (-1))) := by
  have hz := h.z
  have h1 := h.o.stored (k * 3 + 1) (.int .i64 0)
  rw [mk_set1 _ k (by omega)] at h1
  have h2 := h1.1.stored (k * 3 + 2) (.int .i64 (-1))
  rw [mk_set2 _ k (by simp; omega), set_here (by omega), List.set_set] at h2
  exact (h.grown h1.2 h1.1 (by simp [hz])).grown h2.2 h2.1 (by simp [freshL, hz])
theorem DI.cells {w W : World} {G n : Nat} {L : List Mk} {EA TA : Option Addr} {en ec tn tc : Nat} (h : DI w G n #[.slice EA en ec, .slice TA tn tc] L W) : W.cell? ⟨w.heap.size, 0, none⟩ = some (.slice EA en ec) ∧ W.cell? ⟨w.heap.size, 1, none⟩ = some (.slice TA tn tc) := ⟨cell_blk h.f rfl, cell_blk h.f rfl⟩
theorem DI.at_ {w W : World} {G n : Nat} {fl : Array Value} {L : List Mk} (h : DI w G n fl L W) {k : Nat} (hk : k < n) :
    (W.cell? ⟨G, k * 3, none⟩ = some (.bool L[k]!.inn) ∧ W.cell? ⟨G, k * 3 + 1, none⟩ = some (.int .i64 L[k]!.age) ∧ W.cell? ⟨G, k * 3 + 2, none⟩ = some (.int .i64 L[k]!.due)) ∧ W.frozen? ⟨G, k * 3, none⟩ = false ∧ W.frozen? ⟨G, k * 3 + 1, none⟩ = false ∧ W.frozen? ⟨G, k * 3 + 2, none⟩ = false :=
  ⟨own_mk h.o h.z hk, h.o.frozenAt _, h.o.frozenAt _, h.o.frozenAt _⟩
def kindO : Obj := .cells #[.int .i64 2, .int .i64 4, .int .i64 3] 3 (0, 0)
/-- The same, and the list of the three kinds. -/
structure DJ (w : World) (G K n : Nat) (fl : Array Value) (L : List Mk) (W : World) : Prop where
  d : DI w G n fl L W
  k : W.heap[K]? = some kindO
  h : G < K
theorem DJ.lt {w W : World} {G K n : Nat} {fl : Array Value} {L : List Mk} (h : DJ w G K n fl L W) : K < W.heap.size := blk_lt h.k
theorem DJ.below {w W W' : World} {G K n : Nat} {fl : Array Value} {L : List Mk} (h : DJ w G K n fl L W) (hb : Below W.heap.size W W') : DJ w G K n fl L W' :=
  ⟨h.d.below hb, (hb.block _ h.lt).trans h.k, h.h⟩
theorem DJ.alloc {w W : World} {G K n : Nat} {fl : Array Value} {L : List Mk} (h : DJ w G K n fl L W) (o : Obj) : DJ w G K n fl L (W.alloc o) := h.below ((Below.refl _ _).alloc (Nat.le_refl _) _)
theorem DJ.drew {w W : World} {G K n : Nat} {fl : Array Value} {L : List Mk} (h : DJ w G K n fl L W) : DJ w G K n fl L W.drew := h.below (below_draws (Below.refl _ _) 1)
theorem DJ.put {w W : World} {G K n : Nat} {fl : Array Value} {L : List Mk} (h : DJ w G K n fl L W) {k : Nat} (hk : k < n) (y : Mk) :
    DJ w G K n fl (L.set k y) (((W.setCell ⟨G, k * 3, none⟩ (.bool y.inn)).setCell ⟨G, k * 3 + 1, none⟩ (.int .i64 y.age)).setCell ⟨G, k * 3 + 2, none⟩ (.int .i64 y.due)) := by
  have hh := h.h
  refine ⟨h.d.put hk y, ?_, h.h⟩
  rw [blk_other (by omega), blk_other (by omega), blk_other (by omega)]; exact h.k
/-- A row of ties beside it. -/
theorem tie_put {W : World} {B G k n : Nat} {v : Value} {xs : List Value} {cs : Array Value} (h : W.ownsRow B 49 4 v n xs) (hG : W.heap[G]? = some (.cells cs 77 (0, 0))) (y : Mk) :
    (((W.setCell ⟨G, k * 3, none⟩ (.bool y.inn)).setCell ⟨G, k * 3 + 1, none⟩ (.int .i64 y.age)).setCell ⟨G, k * 3 + 2, none⟩ (.int .i64 y.due)).ownsRow B 49 4 v n xs := by
  have hne := own_far h hG (by decide)
  exact own_set (own_set (own_set h hne _) hne _) hne _
theorem DI.blk {w W : World} {G n : Nat} {fl : Array Value} {L : List Mk} (h : DI w G n fl L W) : ∃ cs, W.heap[G]? = some (.cells cs 77 (0, 0)) := by
  rcases h.o.2 with ⟨hv, _⟩ | ⟨g, cap, cur, hv, _, hg, _⟩
  · cases hv
  · cases hv; exact ⟨cur, hg⟩
/-- What Do answers. -/
structure DoEnd (w : World) (n : Nat) (ts : List Ti) (l : List Mk) (i : Int) (e : Ending) (w' : World) : Prop where
  b : Below w.heap.size w w'
  r : ∃ v, e = .returned (.tuple #[v, .int .i64 (doE n ts l i)]) ∧ (doE n ts l i = 0 → w'.ownsRow w.heap.size 77 3 v l.length ((doL ts l i.toNat).flatMap mkC)) ∧ (doE n ts l i ≠ 0 → v = .slice none 0 0)
def kinds : List Int := [2, 4, 3]
def kindsL (ts : List Ti) (l : List Mk) (k j : Nat) : List Mk := (kinds.take j).foldl (kindL ts k) (freshL l k)
theorem kinds_all (ts : List Ti) (l : List Mk) (k : Nat) : kindsL ts l k 3 = doL ts l k := rfl
theorem kinds_zero (ts : List Ti) (l : List Mk) (k : Nat) : kindsL ts l k 0 = freshL l k := rfl
theorem kinds_next (ts : List Ti) (l : List Mk) (k : Nat) {j : Nat} (hj : j < 3) : kindsL ts l k (j + 1) = kindL ts k (kindsL ts l k j) kinds[j]! := fold_next (l := kinds) hj
theorem touch_yes {L : List Mk} {t : Ti} {q : Nat} (h : t.to = (q : Int)) (hq : q < L.length) : touchL L t = L.set q (touchM L[q]! t) := by
  unfold touchL; rw [h, has_nat hq, if_pos rfl]; rfl
theorem touch_no {L : List Mk} {t : Ti} (h : hasI L.length t.to = false) : touchL L t = L := by unfold touchL; rw [h]; rfl
set_option maxRecDepth 100000 in
set_option maxHeartbeats 16000000 in
theorem do_any (w : World) (EA TA A : Option Addr) (en ec tc c : Nat) (ts : List Ti) (l : List Mk) (i : Int) (ht : Row w TA (ts.flatMap tiC)) (htl : ts.length * 32 ≤ 140737488351232) (hr : Row w A (l.flatMap mkC)) (hl : l.length * 24 ≤ 140737488351232) :
    Calls Try.prog 41 #[.agg #[.slice EA en ec, .slice TA ts.length tc], .slice A l.length c, .int .i64 i] w (DoEnd w en ts l i) := by
  have hb := (Below.refl w.heap.size w).alloc (Nat.le_refl _) (.cells #[.slice EA en ec, .slice TA ts.length tc] 32)
  have n0 := heap_new w (.cells #[.slice EA en ec, .slice TA ts.length tc] 32)
  have C := Lib.hid (fits_any (w.alloc (.cells #[.slice EA en ec, .slice TA ts.length tc] 32)) EA TA A en ec ts.length tc c l (hr.below (Nat.le_refl _) hb) hl)
  have HB := Lib.hid hb
  have N0 := Lib.hid n0
  have HT := Lib.hid ht
  have HR := Lib.hid hr
  have HS : Hid (doE en ts l i = if fitsB en l then (if hasI l.length i then (if enB ts l i.toNat then 0 else 11) else 3) else 1) := Lib.hid rfl
  clear hb n0 ht hr
  cases hf : fitsB en l with
  | false =>
    rw [hf] at C HS
    clear hf
    go_enter Try.func41, Try.ntmps41
    go_wp2_with fail
    refine C.out.mono ?_
    rintro e w3 ⟨rfl, hb3⟩
    have HB3 := Lib.hid (HB.out.trans (hb3.mono HB.out.size))
    clear hb3
    go_wp2_with fail
    go_ret2
    have e1 : doE en ts l i = 1 := HS.out
    exact ⟨HB3.out, _, by rw [e1]; rfl, fun h => absurd (e1.symm.trans h) (by decide), fun _ => rfl⟩
  | true =>
    rw [hf, if_pos rfl] at HS
    rw [hf] at C
    clear hf
    have D := fun W => Lib.hid (has_any A l.length c i W)
    cases hh : hasI l.length i with
    | false =>
      rw [hh] at D HS
      clear hh
      go_enter Try.func41, Try.ntmps41
      go_wp2_with fail
      refine C.out.mono ?_
      rintro e w3 ⟨rfl, hb3⟩
      have HB3 := Lib.hid (HB.out.trans (hb3.mono HB.out.size))
      clear hb3
      go_wp2_with fail
      refine (D _).out.mono ?_
      rintro e w4 ⟨rfl, rfl⟩
      go_wp2_with fail
      go_ret2
      have e1 : doE en ts l i = 3 := HS.out
      exact ⟨HB3.out, _, by rw [e1]; rfl, fun h => absurd (e1.symm.trans h) (by decide), fun _ => rfl⟩
    | true =>
      rw [hh, if_pos rfl] at HS
      rw [hh] at D
      obtain ⟨k, hk, rfl⟩ := has_iff.1 hh
      clear hh
      rw [Int.toNat_natCast] at HS
      go_enter Try.func41, Try.ntmps41
      go_wp2_with fail
      refine C.out.mono ?_
      rintro e w3 ⟨rfl, hb3⟩
      have HB3 := Lib.hid (HB.out.trans (hb3.mono HB.out.size))
      have hz3 := hb3.size
      rw [World.size_alloc] at hz3
      have n3 := (hb3.block w.heap.size (by rw [World.size_alloc]; omega)).trans N0.out
      have N3 := Lib.hid n3
      have c0 : w3.cell? ⟨w.heap.size, 0, none⟩ = some (.slice EA en ec) := cell_blk n3 rfl
      have c1 : w3.cell? ⟨w.heap.size, 1, none⟩ = some (.slice TA ts.length tc) := cell_blk n3 rfl
      have E := Lib.hid (isEnabled_any w3 EA TA A en ec tc c ts l k hk (HT.out.below (Nat.le_refl _) HB3.out) htl (HR.out.below (Nat.le_refl _) HB3.out))
      clear hb3 n3 C
      cases he : enB ts l k with
      | false =>
        rw [he] at E HS
        clear he
        go_wp2_with fail
        refine (D _).out.mono ?_
        rintro e w4 ⟨rfl, rfl⟩
        go_wp2_with fail
        refine E.out.mono ?_
        rintro e w5 ⟨rfl, hb5⟩
        have HB5 := Lib.hid (HB3.out.trans (hb5.mono HB3.out.size))
        clear hb5
        go_wp2_with fail
        go_ret2
        have e1 : doE en ts l k = 11 := HS.out
        exact ⟨HB5.out, _, by rw [e1]; rfl, fun h => absurd (e1.symm.trans h) (by decide), fun _ => rfl⟩
      | true =>
        rw [he] at E HS
        clear he
        go_wp2_with fail
        refine (D _).out.mono ?_
        rintro e w4 ⟨rfl, rfl⟩
        go_wp2_with fail
        refine E.out.mono ?_
        rintro e w5 ⟨rfl, hb5⟩
        have HB5 := Lib.hid (HB3.out.trans (hb5.mono HB3.out.size))
        have N5 := Lib.hid ((hb5.block w.heap.size (by omega)).trans N3.out)
        have C6 := Lib.hid (copied_any w5 A c l (HR.out.below (Nat.le_refl _) HB5.out) hl)
        have hz5 := Nat.lt_of_lt_of_le hz3 hb5.size
        clear hb5 c0 c1 E D
        go_wp2_with fail
        refine C6.out.mono ?_
        rintro e w6 ⟨rfl, ho6, hb6⟩
        have HD := Lib.hid (⟨HB5.out.trans (hb6.mono (by omega)), (hb6.block _ hz5).trans N5.out, own_base ho6 (by omega), hz5, rfl⟩ : DI w w5.heap.size l.length #[.slice EA en ec, .slice TA ts.length tc] l w6)
        generalize w5.heap.size = G at *
        clear hb6 ho6 C6 HB3 HB5 N5 N3
        obtain ⟨⟨a0, a1, a2⟩, f0, f1, f2⟩ := HD.out.at_ hk
        have HD7 := Lib.hid (HD.out.fresh hk)
        have hG6 := blk_lt HD.out.blk.choose_spec
        go_wp2_with fail
        have HJ := Lib.hid (⟨HD7.out.below ((Below.refl _ _).alloc (Nat.le_refl _) _), (by have h := heap_new ((w6.setCell ⟨G, k * 3 + 1, none⟩ (.int .i64 0)).setCell ⟨G, k * 3 + 2, none⟩ (.int .i64 (-1))) kindO; rwa [show ((w6.setCell ⟨G, k * 3 + 1, none⟩ (.int .i64 0)).setCell ⟨G, k * 3 + 2, none⟩ (.int .i64 (-1))).heap.size = w6.heap.size by simp] at h), hG6⟩ : DJ w G w6.heap.size l.length #[.slice EA en ec, .slice TA ts.length tc] (freshL l k) (((w6.setCell ⟨G, k * 3 + 1, none⟩ (.int .i64 0)).setCell ⟨G, k * 3 + 2, none⟩ (.int .i64 (-1))).alloc (.cells #[.int .i64 2, .int .i64 4, .int .i64 3] 3)))
        generalize w6.heap.size = K at *
        rw [← kinds_zero ts] at HJ
        clear HD HD7 a0 a1 a2 f0 f1 f2 hG6
        go_loopw [41] (fun i wr => ∃ j : Nat, j ≤ 3 ∧ i = .int .i64 j ∧ Hid (DJ w G K l.length #[.slice EA en ec, .slice TA ts.length tc] (kindsL ts l k j) wr)) (fun i _ => 3 - (intOf i).toNat)
        case atStart => exact ⟨0, Nat.zero_le _, rfl, HJ⟩
        case round =>
          clear HJ
          obtain ⟨j, hj, rfl, HJ⟩ := hrel
          by_cases hj3 : j < 3
          · have HN := Lib.hid (kinds_next ts l k hj3)
            obtain ⟨c0, c1⟩ := HJ.out.d.cells
            have hlt := HJ.out.d.lt
            have kj : wr.cell? ⟨K, j, none⟩ = some (.int .i64 kinds[j]!) := cell_blk HJ.out.k (by
              match j, hj3 with
              | 0, _ => rfl
              | 1, _ => rfl
              | 2, _ => rfl)
            have hkl := HJ.out.lt
            have C := Lib.hid (F4.out_any wr EA TA en ec tc ts kinds[j]! k (HT.out.below (Nat.le_refl _) HJ.out.d.b) htl)
            rw [outB_eq] at C
            have hj0 : (0 : Int) ≤ (j : Int) := Int.natCast_nonneg _
            have hj1 : (j : Int) < 3 := by omega
            generalize kindsL ts l k j = L0 at *
            generalize kinds[j]! = kd at *
            go_wp2_with fail
            refine C.out.mono ?_
            rintro e w8 ⟨v8, rfl, ho8, hb8⟩
            have HJ8 := Lib.hid (HJ.out.below hb8)
            obtain ⟨oa, oc, rfl⟩ := own_slice ho8
            have HO8 := Lib.hid (own_base ho8 (Nat.le_of_lt hlt))
            have HK : Hid (kindL ts k L0 kd = (ts.filter (outB kd k)).foldl touchL L0) := Lib.hid rfl
            have hts : (ts.filter (outB kd k)).length ≤ ts.length := List.length_filter_le _ _
            generalize ts.filter (outB kd k) = us at *
            clear ho8 hb8 C c0 c1 kj HJ
            go_wp2_with fail
            obtain ⟨wo, rfl⟩ : ∃ wo : World, wo = wr := ⟨_, rfl⟩
            go_loopw [50] (fun q wx => ∃ m : Nat, m ≤ us.length ∧ q = .int .i64 m ∧ Hid (DJ w G K l.length #[.slice EA en ec, .slice TA ts.length tc] ((us.take m).foldl touchL L0) wx) ∧ Hid (wx.ownsRow w.heap.size 49 4 (.slice oa us.length oc) us.length (us.flatMap tiC))) (fun q _ => us.length - (intOf q).toNat)
            case atStart => exact ⟨0, Nat.zero_le _, rfl, HJ8, HO8⟩
            case round =>
              clear HJ8 HO8
              obtain ⟨m, hm, rfl, HJ, HO⟩ := hrel
              by_cases hlt2 : m < us.length
              · obtain ⟨b, off, e, hb, hc⟩ := (Row.of_own HO.out).at_ (k := 4) (fun _ => rfl) (by omega) hlt2
                subst e
                have k0 := hc 0 _ rfl
                have k1 := hc 1 _ rfl
                have k2 := hc 2 _ rfl
                have k3 := hc 3 _ rfl
                rw [Nat.add_zero] at k0
                have hm0 : (0 : Int) ≤ (m : Int) := Int.natCast_nonneg _
                have hm1 : (m : Int) < (us.length : Int) := by omega
                have HN2 := Lib.hid (fold_next (f := touchL) (b := L0) hlt2)
                generalize (us.take m).foldl touchL L0 = L at *
                generalize us[m]! = x at *
                have HZ := Lib.hid HJ.out.d.z
                have HJ1 := Lib.hid (HJ.out.alloc (.cells #[.int .i64 x.kind, .int .i64 x.fr, .int .i64 x.to, .int .i64 x.time] 49))
                have HO1 := Lib.hid (HO.out.alloc (.cells #[.int .i64 x.kind, .int .i64 x.fr, .int .i64 x.to, .int .i64 x.time] 49))
                have HX1 := Lib.hid (heap_new wr (.cells #[.int .i64 x.kind, .int .i64 x.fr, .int .i64 x.to, .int .i64 x.time] 49))
                have D := fun W => Lib.hid (has_any (some ⟨G, 0, none⟩) l.length l.length x.to W)
                have hsz : wr.heap.size < (wr.alloc (.cells #[.int .i64 x.kind, .int .i64 x.fr, .int .i64 x.to, .int .i64 x.time] 49)).heap.size := by rw [World.size_alloc]; omega
                clear hc HJ HO
                cases hh : hasI l.length x.to with
                | false =>
                  rw [hh] at D
                  have e1 : touchL L x = L := touch_no (by rw [HZ.out]; exact hh)
                  rw [e1] at HN2
                  clear hh e1
                  go_wp2_with fail
                  refine (D _).out.mono ?_
                  rintro e w9 ⟨rfl, rfl⟩
                  clear k0 k1 k2 k3 hsz
                  go_wp2_with fail
                  go_roundw
                  case rel => exact ⟨m + 1, hlt2, by go_num, by rw [HN2.out]; exact HJ1, HO1⟩
                  case measure => simp [intOf]; omega
                | true =>
                  rw [hh] at D
                  obtain ⟨q, hq, hx⟩ := has_iff.1 hh
                  have e1 := touch_yes hx (by rw [HZ.out]; exact hq)
                  rw [e1] at HN2
                  clear hh e1
                  obtain ⟨xk, xf, xt, xm⟩ := x
                  simp only at hx
                  subst hx
                  simp only at k0 k1 k2 k3
                  obtain ⟨W1, hW1⟩ : ∃ W1, W1 = wr.alloc (.cells #[.int .i64 xk, .int .i64 xf, .int .i64 q, .int .i64 xm] 49) := ⟨_, rfl⟩
                  have HW := Lib.hid hW1
                  go_wp2_with fail
                  refine (D _).out.mono ?_
                  rintro e w9 ⟨rfl, rfl⟩
                  rw [← hW1] at HJ1 HO1 HX1 hsz ⊢
                  clear k0 k1 k2 k3 hW1
                  have HJd := Lib.hid HJ1.out.drew
                  have HOd := Lib.hid HO1.out.drew
                  have T := Lib.hid (touched_any L[q]! ⟨xk, xf, q, xm⟩ W1.drew)
                  have x0 : W1.cell? ⟨wr.heap.size, 0, none⟩ = some (.int .i64 xk) := cell_blk HX1.out rfl
                  have x1 : W1.cell? ⟨wr.heap.size, 1, none⟩ = some (.int .i64 xf) := cell_blk HX1.out rfl
                  have x2 : W1.cell? ⟨wr.heap.size, 2, none⟩ = some (.int .i64 q) := cell_blk HX1.out rfl
                  have x3 : W1.cell? ⟨wr.heap.size, 3, none⟩ = some (.int .i64 xm) := cell_blk HX1.out rfl
                  obtain ⟨⟨a0, a1, a2⟩, -⟩ := HJ1.out.d.at_ hq
                  have hq0 : (0 : Int) ≤ (q : Int) := Int.natCast_nonneg _
                  have hq1 : (q : Int) < (l.length : Int) := by omega
                  generalize L[q]! = y at *
                  go_wp2_with fail
                  go_region_with (go_at_call 69; refine T.out.mono ?_; rintro e w' ⟨rfl, hb9⟩; have HJ9 := Lib.hid (HJd.out.below hb9); have HO9 := Lib.hid (own_below HOd.out hb9); obtain ⟨⟨z0, z1, z2⟩, g0, g1, g2⟩ := HJ9.out.d.at_ hq; have x29 : w'.cell? ⟨wr.heap.size, 2, none⟩ = some (.int .i64 q) := cell_blk ((hb9.block wr.heap.size hsz).trans HX1.out) rfl; clear hb9)
                  all_goals
                    have hT := tie_put (k := q) HO9.out HJ9.out.d.blk.choose_spec (touchM y ⟨xk, xf, q, xm⟩)
                    have hJ := HJ9.out.put hq (touchM y ⟨xk, xf, q, xm⟩)
                    have HT10 := Lib.hid hT
                    have HJ10 := Lib.hid hJ
                    generalize touchM y ⟨xk, xf, q, xm⟩ = yy at *
                    clear hT hJ HO9 HJ9 HJd HOd HJ1 HO1
                    go_wp2_with fail
                    go_roundw
                    case rel => exact ⟨m + 1, hlt2, by go_num, by rw [HN2.out]; exact HJ10, HT10⟩
                    case measure => simp [intOf]; omega
              · obtain rfl : m = us.length := by omega
                have e : Hid ((us.take us.length).foldl touchL L0 = us.foldl touchL L0) := Lib.hid fold_all
                have HJ2 : Hid (DJ w G K l.length #[.slice EA en ec, .slice TA ts.length tc] (kindsL ts l k (j + 1)) wr) := Lib.hid (by rw [HN.out, HK.out, ← e.out]; exact HJ.out)
                clear HJ HO e
                go_wp2_with fail
                go_roundw
                case rel => exact ⟨j + 1, hj3, by go_num, HJ2⟩
                case measure => simp [intOf]; omega
          · obtain rfl : j = 3 := by omega
            rw [kinds_all] at HJ
            have e1 : doE en ts l k = 0 := HS.out
            go_wp2_with fail
            go_ret2
            exact ⟨HJ.out.d.b, _, by rw [e1]; rfl, fun _ => HJ.out.d.o, fun h => absurd e1 h⟩
end Go.Proofs.Ytplplkchibefjaa.M5
