/-
  Contract of Longest.
-/
import Derived.Test.YtaagpnepkjkfoaaRiV
namespace Go.Proofs.Ytaagpnepkjkfoaa.R6
open Go.RowKit Go.Shelf Go.Proofs.Ytaagpnepkjkfoaa.B
attribute [local go_sem] Oper.semAt_some

theorem arr50 {t : Array Value} (h : t.size = 50) : ∃ x0 x1 x2 x3 x4 x5 x6 x7 x8 x9 x10 x11 x12 x13 x14 x15 x16 x17 x18 x19 x20 x21 x22 x23 x24 x25 x26 x27 x28 x29 x30 x31 x32 x33 x34 x35 x36 x37 x38 x39 x40 x41 x42 x43 x44 x45 x46 x47 x48 x49, t = List.toArray (x0 :: x1 :: x2 :: x3 :: x4 :: x5 :: x6 :: x7 :: x8 :: x9 :: x10 :: x11 :: x12 :: x13 :: x14 :: x15 :: x16 :: x17 :: x18 :: x19 :: x20 :: x21 :: x22 :: x23 :: x24 :: x25 :: x26 :: x27 :: x28 :: x29 :: x30 :: x31 :: x32 :: x33 :: x34 :: x35 :: x36 :: x37 :: x38 :: x39 :: x40 :: x41 :: x42 :: x43 :: x44 :: x45 :: x46 :: x47 :: x48 :: x49 :: []) := by
  obtain ⟨l⟩ := t
  match l, h with
  | x0 :: x1 :: x2 :: x3 :: x4 :: x5 :: x6 :: x7 :: x8 :: x9 :: x10 :: x11 :: x12 :: x13 :: x14 :: x15 :: x16 :: x17 :: x18 :: x19 :: x20 :: x21 :: x22 :: x23 :: x24 :: x25 :: x26 :: x27 :: x28 :: x29 :: x30 :: x31 :: x32 :: x33 :: x34 :: x35 :: x36 :: x37 :: x38 :: x39 :: x40 :: x41 :: x42 :: x43 :: x44 :: x45 :: x46 :: x47 :: x48 :: x49 :: [], _ => exact ⟨x0, x1, x2, x3, x4, x5, x6, x7, x8, x9, x10, x11, x12, x13, x14, x15, x16, x17, x18, x19, x20, x21, x22, x23, x24, x25, x26, x27, x28, x29, x30, x31, x32, x33, x34, x35, x36, x37, x38, x39, x40, x41, x42, x43, x44, x45, x46, x47, x48, x49, rfl⟩
/-! ### how great the lengths may grow -/
theorem chain_bound (a : Nat) : ∀ (ws : List Nat) (c : List Int) (B : Int), (∀ x : Nat, 0 ≤ c[x]! ∧ c[x]! ≤ B) → ∀ x : Nat, 0 ≤ (ws.foldl (chainS a) c)[x]! ∧ (ws.foldl (chainS a) c)[x]! ≤ B + ws.length
  | [], c, B, h, x => by have := h x; simpa using this
  | t :: r, c, B, h, x => by
    have ih := chain_bound a r (chainS a c t) (B + 1) (fun y => by
      unfold chainS
      by_cases ha : a < c.length
      · rw [set_get ha]
        have h1 := h a; have h2 := h t; have h3 := h y
        split <;> omega
      · rw [List.set_eq_of_length_le (by omega)]
        have := h y; omega) x
    rw [List.foldl_cons, List.length_cons]
    omega
theorem long_bound {rs : List RW} (hrow : ∀ r ∈ rs, r.l.length ≤ 100000) (r : List Nat) : ∀ (k : Nat), k ≤ r.length → (∀ x : Nat, 0 ≤ (longR (netOf rs) (r.take k)).1[x]! ∧ (longR (netOf rs) (r.take k)).1[x]! ≤ k * 100000) ∧ 0 ≤ (longR (netOf rs) (r.take k)).2 ∧ (longR (netOf rs) (r.take k)).2 ≤ k * 100000
  | 0, _ => by
    refine ⟨fun x => ?_, Int.le_refl _, Int.le_refl _⟩
    show 0 ≤ (List.replicate (netOf rs).length (0 : Int))[x]! ∧ (List.replicate (netOf rs).length (0 : Int))[x]! ≤ _
    by_cases h : x < (netOf rs).length
    · rw [getElem!_pos _ x (by simpa using h)]; simp
    · rw [getElem!_neg _ x (by simpa using h)]; exact ⟨Int.le_refl _, Int.le_refl _⟩
  | k + 1, hk => by
    obtain ⟨h1, h2, h3⟩ := long_bound hrow r k (by omega)
    rw [List.take_succ_eq_append_getElem (by omega), longR_next]
    have hw := wy_len hrow r[k]
    have hc := chain_bound r[k] (wy (netOf rs) r[k]) _ _ h1
    refine ⟨fun x => ?_, ?_, ?_⟩
    · have := hc x
      show 0 ≤ (chainP (netOf rs) r[k] (longR (netOf rs) (r.take k)).1)[x]! ∧ (chainP (netOf rs) r[k] (longR (netOf rs) (r.take k)).1)[x]! ≤ _
      unfold chainP
      omega
    · have := hc r[k]
      show 0 ≤ max (longR (netOf rs) (r.take k)).2 (chainP (netOf rs) r[k] (longR (netOf rs) (r.take k)).1)[r[k]]!
      unfold chainP
      omega
    · have := hc r[k]
      show max (longR (netOf rs) (r.take k)).2 (chainP (netOf rs) r[k] (longR (netOf rs) (r.take k)).1)[r[k]]! ≤ _
      unfold chainP
      omega
theorem long_bound' {rs : List RW} (hrow : ∀ r ∈ rs, r.l.length ≤ 100000) (r : List Nat) : (∀ x : Nat, 0 ≤ (longR (netOf rs) r).1[x]! ∧ (longR (netOf rs) r).1[x]! ≤ r.length * 100000) ∧ 0 ≤ (longR (netOf rs) r).2 ∧ (longR (netOf rs) r).2 ≤ r.length * 100000 := by
  have := long_bound hrow r r.length (Nat.le_refl _)
  rwa [List.take_length] at this
def longI (n : NetL) : Int := if leadsB n then 0 else longL n
theorem boxed_own' {β : Type} (b : Nat) (t : TypeId) (f : β → Value) : Own (fun s W => Boxed W b t (f s)) := boxed_own b t f
theorem Boxed.keep {W W' : World} {b : Nat} {t : TypeId} {v : Value} (h : Boxed W b t v) (hk : W'.heap[b]? = W.heap[b]?) : Boxed W' b t v := hk.trans h
/-- The frame of Longest in a round of its outer loop; of its inner one. -/
structure LA (bn b6 b7 bx : Nat) (a : Act) : Prop where
  z : a.tmps.size = 50
  s1 : a.tmps.getD 1 undef = pt bn
  s6 : a.tmps.getD 6 undef = pt b6
  s7 : a.tmps.getD 7 undef = pt b7
  s9 : a.tmps.getD 9 undef = pt bx
  d : a.defers = []
structure LB (b7 bx y : Nat) (a : Act) : Prop where
  z : a.tmps.size = 50
  s7 : a.tmps.getD 7 undef = pt b7
  s9 : a.tmps.getD 9 undef = pt bx
  s10 : a.tmps.getD 10 undef = iv y
  d : a.defers = []

theorem own_kps {β : Type} {n₀ B : Nat} {M : Nat → Prop} {V : World} (hB : n₀ ≤ B) : OwnFrom B (fun (_ : β) U => n₀ ≤ U.heap.size ∧ Kps n₀ M V U) := fun _ _ _ _ hs hg hr =>
  ⟨Nat.le_trans hs.1 hg.size, fun k hk hm => (hg.block k (by have := hs.1; omega) (fun e => by have := (hr k e.symm).1; omega)).trans (hs.2 k hk hm)⟩
theorem own_size {β : Type} {n₀ B : Nat} : OwnFrom B (fun (_ : β) U => n₀ ≤ U.heap.size) := fun _ _ _ _ hs hg _ => Nat.le_trans hs hg.size
theorem chain_snoc (a : Nat) (ws : List Nat) (t : Nat) (c : List Int) : (ws ++ [t]).foldl (chainS a) c = chainS a (ws.foldl (chainS a) c) t := by rw [List.foldl_append]; rfl
theorem max_if (a b : Int) : (if a < b then b else a) = max a b := by split <;> omega
set_option maxRecDepth 100000 in
set_option maxHeartbeats 8000000 in
theorem longest_any (w : World) (A : Option Addr) (c : Nat) (rs : List RW) (hn : NetIn w A rs) (hN : rs.length ≤ 200) (hrow : ∀ r ∈ rs, r.l.length ≤ 100000) :
    Calls Try.prog 11 #[.slice A rs.length c] w fun e w' => e = .returned (.tuple #[.int .i64 (longI (netOf rs)), .int .i64 (ordE (netOf rs))]) ∧ Below w.heap.size w w' := by
  have hnl : (netOf rs).length = rs.length := net_len _
  have hb1 := (Below.refl w.heap.size w).alloc (Nat.le_refl _) (.cells #[.slice A rs.length c] 23)
  have CO := Lib.hid (order_any (w.alloc (.cells #[.slice A rs.length c] 23)) A c rs (hn.below (Nat.le_refl _) hb1) hN hrow)
  have HN := Lib.hid hn
  have HRW := Lib.hid hrow
  have HB1 := Lib.hid hb1
  have hbn : (w.alloc (.cells #[.slice A rs.length c] 23)).heap[w.heap.size]? = some (.cells #[.slice A rs.length c] 23 (0, 0)) := heap_new _ _
  have HBN := Lib.hid hbn
  clear hn hrow hb1 hbn
  cases hl : leadsB (netOf rs) with
  | true =>
    have HE : Hid (ordE (netOf rs) = 7 ∧ longI (netOf rs) = 0 ∧ ordI (netOf rs) = []) := Lib.hid (by unfold ordE longI ordI; rw [hl]; exact ⟨rfl, rfl, rfl⟩)
    clear hl
    go_enter Try.func11, Try.ntmps11
    go_wp2_with fail
    refine CO.out.mono ?_
    rintro e w2 ⟨hb2, v, rfl, hov, _⟩
    obtain ⟨va, vc, rfl⟩ := own_slice hov
    have HB2 := Lib.hid (HB1.out.trans (hb2.mono HB1.out.size))
    rw [HE.out.1]
    clear hov hb2 CO
    go_wp2_with fail
    go_ret2
    exact ⟨by rw [HE.out.1, HE.out.2.1]; rfl, HB2.out⟩
  | false =>
    have hac := leadsB_no hl
    have HE : Hid (ordE (netOf rs) = 0 ∧ longI (netOf rs) = longL (netOf rs) ∧ ordI (netOf rs) = ordL (netOf rs) rs.length) := Lib.hid (by unfold ordE longI ordI; rw [hl, hnl]; exact ⟨rfl, rfl, rfl⟩)
    have hol := (ord_ok hac rs.length (by rw [hnl]; exact Nat.le_refl _)).2
    have HOL := Lib.hid (ord_ok hac rs.length (by rw [hnl]; exact Nat.le_refl _)).1
    have HLL : Hid (longL (netOf rs) = (longR (netOf rs) (ordL (netOf rs) rs.length).reverse).2) := Lib.hid (by unfold longL; rw [hnl])
    clear hl hac
    have hb := make_ints rs.length (by omega)
    obtain ⟨cs, hcs⟩ : ∃ cs, cs = ((List.replicate rs.length (0 : Int)).map (Value.int .i64)).toArray := ⟨_, rfl⟩
    rw [← hcs] at hb
    have HCS := Lib.hid hcs
    clear hcs
    refine (callsIn_wide (n := 10)).1 ?_
    refine callsIn_of_wp_marks Try.func11 rfl trivial ?_ rfl
    simp only [Try.ntmps11, List.size_toArray, List.length_cons, List.length_nil, Nat.reduceAdd, Nat.reduceSub, Array.replicate_succ, Array.replicate_zero, List.push_toArray, List.append_toArray, List.nil_append, List.cons_append]
    gi_wp2
    refine ⟨trivial, ?_⟩
    refine (callsIn_wide.2 CO.out).mono ?_
    rintro e w2 ⟨hb2, v, rfl, hov, _⟩
    rw [HE.out.2.2, hol] at hov
    obtain ⟨va, vc, rfl⟩ := own_slice hov
    rw [World.size_alloc] at hov
    have hbw : Below w.heap.size w w2 := HB1.out.trans (hb2.mono HB1.out.size)
    have hbn2 : w2.heap[w.heap.size]? = some (.cells #[.slice A rs.length c] 23 (0, 0)) := (hb2.block _ (by rw [World.size_alloc]; omega)).trans HBN.out
    have cbn : w2.cell? ⟨w.heap.size, 0, none⟩ = some (.slice A rs.length c) := cell_blk (i := 0) hbn2 rfl
    have hlt2 := blk_lt hbn2
    have HOV := Lib.hid hov
    have HBW := Lib.hid hbw
    have HBN2 := Lib.hid hbn2
    rw [HE.out.1]
    clear hov hbw hb2 CO hbn2
    gi_wp2_with (refine ⟨trivial, ?_⟩; gi_at_call 46; refine (back_any _ va rs.length vc _).mono ?_; rintro e w' ⟨rfl, rfl⟩)
    obtain ⟨W4, hW4⟩ : ∃ W4, W4 = ((((w2.alloc (.cells #[.int .i64 0] 3)).alloc (.cells cs 3)).alloc (.cells #[rowAt (w2.heap.size + 1) rs.length] 26)).alloc (.cells #[.slice va rs.length vc] 26)) := ⟨_, rfl⟩
    have hal : W4 = [Obj.cells #[.int .i64 0] 3, .cells cs 3, .cells #[rowAt (w2.heap.size + 1) rs.length] 26, .cells #[.slice va rs.length vc] 26].foldl World.alloc w2 := hW4
    have hs4 : W4.heap.size = w2.heap.size + 4 := by rw [hal, allocs_size]; rfl
    have hb4 : Below w2.heap.size w2 W4 := by rw [hal]; exact allocs_below _ _ (Nat.le_refl _)
    have a0 : W4.heap[w2.heap.size]? = some (.cells #[.int .i64 0] 3 (0, 0)) := by rw [hal]; exact allocs_at _ w2 0 (by simp)
    have a1 : W4.heap[w2.heap.size + 1]? = some (.cells cs 3 (0, 0)) := by rw [hal]; exact allocs_at _ w2 1 (by simp)
    have a2 : W4.heap[w2.heap.size + 2]? = some (.cells #[rowAt (w2.heap.size + 1) rs.length] 26 (0, 0)) := by rw [hal]; exact allocs_at _ w2 2 (by simp)
    have a3 : W4.heap[w2.heap.size + 3]? = some (.cells #[.slice va rs.length vc] 26 (0, 0)) := by rw [hal]; exact allocs_at _ w2 3 (by simp)
    show Code.wpIn _ _ _ _ _ _ ((((w2.alloc (.cells #[.int .i64 0] 3)).alloc (.cells cs 3)).alloc (.cells #[rowAt (w2.heap.size + 1) rs.length] 26)).alloc (.cells #[.slice va rs.length vc] 26))
    rw [← hW4]
    clear hW4 hal
    obtain ⟨B2, hB2⟩ : ∃ B2, B2 = w2.heap.size := ⟨_, rfl⟩
    have hov4 := own_below HOV.out hb4
    have hbw4 : Below w.heap.size w W4 := HBW.out.trans (hb4.mono HBW.out.size)
    have hbn4 : W4.heap[w.heap.size]? = some (.cells #[.slice A rs.length c] 23 (0, 0)) := (hb4.block _ hlt2).trans HBN2.out
    have hovlt : ∀ q, (Value.slice va rs.length vc).ownBlock = some q → q < B2 := fun q hq => by rw [hB2]; exact (own_block HOV.out hq).2
    rw [← hB2] at hs4 a0 a1 a2 a3 hlt2 ⊢
    clear HOV HBW HBN2 hB2 hb4 cbn
    obtain ⟨l, hl⟩ : ∃ l, l = ordL (netOf rs) rs.length := ⟨_, rfl⟩
    rw [← hl] at hol hov4 HOL HLL
    have hr4 : RowBox (B2 + 1) (B2 + 2) rs.length (longR (netOf rs) []).1 W4 := ⟨_, a2, own_all (Nat.le_refl _) (by rw [a1, HCS.out]; show _ = some (Obj.cells ((List.replicate (netOf rs).length (0 : Int)).map (Value.int .i64)).toArray _ _); rw [hnl]) (by show ((List.replicate (netOf rs).length (0 : Int)).map (Value.int .i64)).length = _; simp [hnl]) (by omega), rfl⟩
    have HOV4 := Lib.hid hov4
    have HLB := Lib.hid (long_bound' HRW.out)
    clear hl hov4 HCS
    have hlmem : ∀ x : Fin l.length, l[x.val]! < rs.length := fun x => by have := HOL.out.lt _ (Go.Proofs.Ytaagpnepkjkfoaa.B.mem_at x.isLt); rw [hnl] at this; exact this
    have HLM := Lib.hid hlmem
    clear hlmem
    rw [← hol]
    refine wpIn_rangeFunc_ownH (α := Fin l.length) rfl (by omega) (gf := 73) (lb := #[pt (B2 + 3)]) rfl trivial (enters_of Try.func73 (by kernel_rfl) rfl)
      (encs := fun x => #[.int .i64 (x.val : Int), iv l[x.val]!]) (Kp := Kps W4.heap.size (fun q => q = B2 + 1 ∨ q = B2)) (S := fun ys => ys = (List.finRange l.length).reverse) (Sp := fun _ => True) (N := l.length) (w0 := W4)
      ?seq Kps.trans ?kb (Below.refl _ _) (fun _ => rfl)
      (fun pre V => RowBox (B2 + 1) (B2 + 2) rs.length (longR (netOf rs) (pre.map fun x => l[x.val]!)).1 V ∧ Boxed V B2 3 (.int .i64 (longR (netOf rs) (pre.map fun x => l[x.val]!)).2) ∧ Boxed V w.heap.size 23 (.slice A rs.length c) ∧ Below w.heap.size w V ∧ W4.heap.size ≤ V.heap.size) (fun _ _ _ => False)
      ?own (fun _ _ _ _ _ hs _ _ => hs) ⟨hr4, a0, hbn4, hbw4, Nat.le_refl _⟩ (fun x a' V => ∃ bx, W4.heap.size ≤ bx ∧ Boxed V bx 3 (iv l[x.val]!) ∧ LA w.heap.size B2 (B2 + 2) bx a') ?ownA ?assign ?body ?done ?stop
    case seq =>
      exact back_seq (by omega) 9 (by omega) (B2 + 3) W4.heap.size _ (by rw [hol]; exact a3) (by omega) (by omega) (fun i hi => by
        obtain ⟨q, qc, hq, hq1, hq2⟩ := own_head HOV4.out (by omega)
        injection hq with e1 e2 e3
        subst e1
        exact ⟨q, 0, rfl, hq2, hq2, by have := hovlt q rfl; omega, by rw [Nat.zero_add]; exact (HOV4.out.cellAt i (by omega)).trans (map_get iv hi)⟩)
    case kb => exact Kps.put (Nat.le_refl _)
    case own => exact OwnFrom.and ((rowBox_own _ _ _ (fun pre : List (Fin l.length) => (longR (netOf rs) (pre.map fun x => l[x.val]!)).1)).from _) (OwnFrom.and ((boxed_own B2 _ (fun pre : List (Fin l.length) => Value.int .i64 (longR (netOf rs) (pre.map fun x => l[x.val]!)).2)).from _) (OwnFrom.and ((boxed_own _ _ (fun _ => _)).from _) (OwnFrom.and (ownFrom_below (Nat.le_refl _) (by omega)) own_size)))
    case ownA => exact fun x a' _ X Y row ⟨bx, h1, h2, h3⟩ hg hr => ⟨bx, h1, (boxed_own (β := Unit) bx _ (fun _ => iv l[x.val]!)).from W4.heap.size () X Y row h2 hg hr, h3⟩
    case assign =>
      rintro lp pre x V K hi hK
      have hbz := hbw4.size
      obtain ⟨lx, hlx⟩ : ∃ lx, lx = l[x.val]! := ⟨_, rfl⟩
      rw [← hlx] at hK ⊢
      clear hlx
      gi_wp2
      have hb1 := (Below.refl V.heap.size V).alloc (Nat.le_refl _) (.cells #[iv lx] 3)
      exact hK _ _ ((KeepsOthers.alloc _ _).from _) (fun k hk _ => hb1.block k (by have := hi.2.2.2.2; omega)) ⟨hi.1.keep (fun k hk => hb1.block k (by have := hi.1.lt; omega)), Boxed.alloc hi.2.1 _, Boxed.alloc hi.2.2.1 _, hi.2.2.2.1.alloc (by have := hi.2.2.2.2; omega) _, by rw [World.size_alloc]; have := hi.2.2.2.2; omega⟩
        ⟨V.heap.size, hi.2.2.2.2, Boxed.new _ _ _, ⟨rfl, rfl, rfl, rfl, rfl, rfl⟩⟩
    case body =>
      rintro lp pre x ⟨tm, df⟩ V hlp ⟨rl, hrl⟩ ⟨hr, hm, hbn, hbl, hzv⟩ ⟨bx, hbx, hbb, hx⟩ hlen
      obtain ⟨y0, y1, y2, y3, y4, y5, y6, y7, y8, y9, y10, y11, y12, y13, y14, y15, y16, y17, y18, y19, y20, y21, y22, y23, y24, y25, y26, y27, y28, y29, y30, y31, y32, y33, y34, y35, y36, y37, y38, y39, y40, y41, y42, y43, y44, y45, y46, y47, y48, y49, rfl⟩ := arr50 hx.z
      obtain rfl : y1 = _ := hx.s1
      obtain rfl : y6 = _ := hx.s6
      obtain rfl : y7 = _ := hx.s7
      obtain rfl : y9 = _ := hx.s9
      obtain rfl : df = _ := hx.d
      have hxl := HLM.out x
      have hlb := HLB.out (pre.map fun x => l[x.val]!)
      rw [List.length_map] at hlb
      have HNX := Lib.hid (longR_next (netOf rs) (pre.map fun x => l[x.val]!) l[x.val]!)
      have hmx : Try.prog.follows .mixedOrders = true := by kernel_rfl
      have hpm : (pre ++ [x]).map (fun x => l[x.val]!) = (pre.map fun x => l[x.val]!) ++ [l[x.val]!] := by simp
      have HPM := Lib.hid hpm
      generalize hst : longR (netOf rs) (pre.map fun x => l[x.val]!) = st at *
      have HST := Lib.hid hst
      generalize l[x.val]! = lx at *
      have cbn : V.cell? ⟨w.heap.size, 0, none⟩ = some (.slice A rs.length c) := hbn.cell
      have cbx : V.cell? ⟨bx, 0, none⟩ = some (iv lx) := hbb.cell
      have hbnl := hbn.lt
      have hbxl := hbb.lt
      have hwz := hbl.size
      have hrlt := hr.lt
      have hml := hm.lt
      have h1n : 1 ≤ 10 - 1 - 1 := by omega
      have hpre : pre.length ≤ 200 := by omega
      clear hx hst hpm hlen
      gi_wp2
      refine ⟨trivial, ?_⟩
      refine (CallsIn.inRound lp (ways_any _ A rs.length c lx V)).mono ?_
      rintro e w' ⟨rfl, rfl⟩
      gi_wp2
      obtain ⟨Vd, hVd⟩ : ∃ Vd, Vd = ((V.alloc (.cells #[.slice A rs.length c] 23)).alloc (.cells #[iv lx] 3)) := ⟨_, rfl⟩
      have hsd : Vd.heap.size = V.heap.size + 2 := by rw [hVd, World.size_alloc, World.size_alloc]
      have hbd : Below V.heap.size V Vd := by rw [hVd]; exact ((Below.refl _ V).alloc (Nat.le_refl _) _).alloc (by rw [World.size_alloc]; omega) _
      have hx0 : Vd.heap[V.heap.size]? = some (.cells #[.slice A rs.length c] 23 (0, 0)) := by rw [hVd]; exact heap_old (by rw [World.size_alloc]; omega) (heap_new _ _)
      have hx1 : Vd.heap[V.heap.size + 1]? = some (.cells #[iv lx] 3 (0, 0)) := by
        rw [hVd]; have := heap_new (V.alloc (.cells #[.slice A rs.length c] 23)) (.cells #[iv lx] 3)
        rw [World.size_alloc] at this; exact this
      show Code.wpIn _ _ _ _ _ _ ((V.alloc (.cells #[.slice A rs.length c] 23)).alloc (.cells #[iv lx] 3))
      rw [← hVd]
      clear hVd
      have hlpd : Vd.heap[lp]? = some (.loop rl) := (hbd.block lp (Array.getElem?_eq_some_iff.1 hrl).1).trans hrl
      have hrd : RowBox (B2 + 1) (B2 + 2) rs.length st.1 Vd := hr.keep (fun q hq => hbd.block q (by omega))
      have hbwd : Below w.heap.size w Vd := hbl.trans (hbd.mono (by omega))
      have hmd : Boxed Vd B2 3 (.int .i64 st.2) := (hbd.block _ hml).trans hm
      have hbnd : Boxed Vd w.heap.size 23 (.slice A rs.length c) := (hbd.block _ hbnl).trans hbn
      have hbbd : Boxed Vd bx 3 (iv lx) := (hbd.block _ hbxl).trans hbb
      have hkfd : KeepsFrom W4.heap.size V Vd := ⟨hbd.size, fun q o _ ho _ => (hbd.block q (Array.getElem?_eq_some_iff.1 ho).1).trans ho⟩
      have hkpd : W4.heap.size ≤ Vd.heap.size ∧ Kps W4.heap.size (fun q => q = B2 + 1 ∨ q = B2) V Vd := ⟨by omega, fun k hk _ => hbd.block k (by omega)⟩
      have HWL := Lib.hid (wy_len HRW.out lx)
      refine wpIn_rangeFunc_ownN (α := Fin rs.length) (l₀ := lp) (r₀ := rl) rfl hlpd (by omega) (gf := 71) (lb := #[pt V.heap.size, pt (V.heap.size + 1)]) rfl trivial (enters_of Try.func71 (by kernel_rfl) rfl)
        (encs := fun x => #[iv x.val]) (Kp := Kps Vd.heap.size (fun q => q = B2 + 1)) (S := fun ys => ys.map (·.val) = wy (netOf rs) lx) (Sp := fun _ => True) (N := (wy (netOf rs) lx).length) (w0 := Vd)
        ?seq2 Kps.trans ?kb2 (Below.refl _ _) (fun _ => rfl)
        (fun pre2 U => RowBox (B2 + 1) (B2 + 2) rs.length ((pre2.map (·.val)).foldl (chainS lx) st.1) U ∧ Boxed U B2 3 (.int .i64 st.2) ∧ Boxed U w.heap.size 23 (.slice A rs.length c) ∧ Boxed U bx 3 (iv lx) ∧ Below w.heap.size w U ∧ KeepsFrom W4.heap.size V U ∧ (W4.heap.size ≤ U.heap.size ∧ Kps W4.heap.size (fun q => q = B2 + 1 ∨ q = B2) V U) ∧ Vd.heap.size ≤ U.heap.size) (fun _ _ _ => False)
        ?own2 (fun _ _ _ _ _ hs _ _ => hs) ⟨hrd, hmd, hbnd, hbbd, hbwd, hkfd, hkpd, Nat.le_refl _⟩ (fun y a' _ => LB (B2 + 2) bx y.val a') (fun _ _ _ _ _ _ hs _ _ => hs) ?assign2 ?body2 ?done2 ?stop2
      case seq2 => exact SeqStopsK.inRound lp (ways_seq HN.out HRW.out _ (by omega) V.heap.size lx hxl hbwd Vd.heap.size (fun q => q = B2 + 1) (fun q hq => by omega) hx0 hx1 (by omega) (by omega) (by omega))
      case kb2 => exact Kps.put (Nat.le_refl _)
      case own2 => exact OwnFrom.and ((rowBox_own _ _ _ (fun pre2 : List (Fin rs.length) => (pre2.map (·.val)).foldl (chainS lx) st.1)).from _) (OwnFrom.and ((boxed_own B2 _ (fun _ => _)).from _) (OwnFrom.and ((boxed_own _ _ (fun _ => _)).from _) (OwnFrom.and ((boxed_own _ _ (fun _ => _)).from _) (OwnFrom.and (ownFrom_below (Nat.le_refl _) (by omega)) (OwnFrom.and (ownFrom_keepsFrom (by omega)) (OwnFrom.and (own_kps (by omega)) own_size))))))
      case assign2 =>
        rintro lp2 pre2 y U K hi hK
        gi_wp2
        exact hK _ _ (KeepsFrom.refl _ _) (Kps.refl _ _ _) hi ⟨rfl, rfl, rfl, rfl, rfl⟩
      case body2 =>
        rintro lp2 pre2 y ⟨tm, df⟩ U _ _ ⟨hr2, hm2, hn2, hb2, hl2, hk2, hp2, hd2⟩ hx2 hlen2
        obtain ⟨z0, z1, z2, z3, z4, z5, z6, z7, z8, z9, z10, z11, z12, z13, z14, z15, z16, z17, z18, z19, z20, z21, z22, z23, z24, z25, z26, z27, z28, z29, z30, z31, z32, z33, z34, z35, z36, z37, z38, z39, z40, z41, z42, z43, z44, z45, z46, z47, z48, z49, rfl⟩ := arr50 hx2.z
        obtain rfl : z7 = _ := hx2.s7
        obtain rfl : z9 = _ := hx2.s9
        obtain rfl : z10 = _ := hx2.s10
        obtain rfl : df = _ := hx2.d
        have hyl := y.isLt
        obtain ⟨cl, hcl⟩ : ∃ cl, cl = (pre2.map (·.val)).foldl (chainS lx) st.1 := ⟨_, rfl⟩
        have hcb := chain_bound lx (pre2.map (·.val)) st.1 _ hlb.1
        rw [← hcl] at hr2 hcb
        have hpl : (pre2.map (fun y : Fin rs.length => y.val)).length ≤ 100000 := by
          rw [List.length_map]
          have := HWL.out
          omega
        have hcy := hcb y.val
        have hcx := hcb lx
        obtain ⟨ky, _⟩ := hr2.cell hyl
        obtain ⟨kx, fx⟩ := hr2.cell hxl
        have cb7 := hr2.box
        have cbx2 : U.cell? ⟨bx, 0, none⟩ = some (iv lx) := hb2.cell
        have hrl2 := hr2.lt
        have hbl2 := hb2.lt
        have hk2' : (0 : Int) ≤ (y.val : Int) := Int.natCast_nonneg _
        have hk3' : (y.val : Int) < (rs.length : Int) := by omega
        have hk4' : (0 : Int) ≤ (lx : Int) := Int.natCast_nonneg _
        have hk5' : (lx : Int) < (rs.length : Int) := by omega
        have HSN := Lib.hid (chain_snoc lx (pre2.map (·.val)) y.val st.1)
        rw [← hcl] at HSN
        have hset := fun i => Lib.hid (hr2.set (by omega) lx i)
        have hB0 : ∃ Z : Int, Z ≤ 30000000 ∧ cl[y.val]! ≤ Z ∧ cl[lx]! ≤ Z := ⟨30000000, by omega, by omega, by omega⟩
        have hEQ : Hid (chainS lx cl y.val = cl.set lx (max cl[lx]! (cl[y.val]! + 1))) := Lib.hid rfl
        have H2 : Hid (RowBox (B2 + 1) (B2 + 2) rs.length cl U ∧ Boxed U B2 3 (.int .i64 st.2) ∧ Boxed U w.heap.size 23 (.slice A rs.length c) ∧ Boxed U bx 3 (iv lx) ∧ Below w.heap.size w U ∧ KeepsFrom W4.heap.size V U ∧ (W4.heap.size ≤ U.heap.size ∧ Kps W4.heap.size (fun q => q = B2 + 1 ∨ q = B2) V U)) := Lib.hid ⟨hr2, hm2, hn2, hb2, hl2, hk2, hp2⟩
        clear hcl hcb hpl hr2 hm2 hn2 hb2 hl2 hk2 hp2 hx2 hlen2
        generalize cl[y.val]! = vy at *
        generalize cl[lx]! = vx at *
        gi_wp2
        refine wpIn_mono (Q := Exit.then (fun _ W' => W' = U.drew.setCell ⟨B2 + 1, lx, none⟩ (.int .i64 (max vx (vy + 1)))) (fun _ _ _ => False)) ?reg ?aft
        case reg =>
          obtain ⟨Z, hZ1, hZ2, hZ3⟩ := hB0
          clear H2 hset HSN hEQ HWL HST HNX HPM HN HRW HB1 HBN HE HOL HLL HOV4 HLB HLM hr hm hbn hbl
          refine wpIn_round_still_tail (lp := lp2) 13 hmx (by kernel_rfl) (by kernel_rfl) ?_
          simp only [List.take_succ_cons, List.take_zero, List.drop_succ_cons, List.drop_zero]
          repeat still_step
          refine wpStill_nil ?_
          go_wp2
          all_goals first | (rw [Int.max_eq_left (by omega)]; done) | (rw [Int.max_eq_right (by omega)]; done)
        case aft =>
          rintro e a' W' hp
          cases e with
          | normal =>
            obtain rfl : W' = _ := hp
            gi_wp2
            obtain ⟨hr2, hm2, hn2, hb2, hl2, hk2, hp2⟩ := H2.out
            have he : Ext (fun q => q = B2 + 1) U (U.drew.setCell ⟨B2 + 1, lx, none⟩ (.int .i64 (max vx (vy + 1)))) := (Ext.of_below (F := fun q => q = B2 + 1) (below_draws (Below.refl _ _) 1)).trans (Ext.set (F := fun q => q = B2 + 1) U.drew _ rfl) (fun _ h => .inl h)
            have ho : KeepsOthers U (U.drew.setCell ⟨B2 + 1, lx, none⟩ (.int .i64 (max vx (vy + 1)))) := (KeepsOthers.drew U).trans (KeepsOthers.setCell _ _ _)
            have hzU := hl2.size
            refine ⟨ho.from _, Kps.ext he hd2 (fun _ _ h => h), ?_, (he.block _ hm2.lt (by omega)).trans hm2, (he.block _ hn2.lt (by omega)).trans hn2, (he.block _ hb2.lt (by omega)).trans hb2, he.below hl2 (fun i hi => by omega) hzU, hk2.trans (ho.from _), ⟨Nat.le_trans hp2.1 he.size, hp2.2.trans (Kps.ext he hp2.1 (fun _ _ h => .inl h))⟩, Nat.le_trans hd2 he.size⟩
            rw [List.map_append]
            show RowBox _ _ _ (List.foldl (chainS lx) st.fst (pre2.map (fun y : Fin rs.length => y.val) ++ [y.val])) _
            rw [HSN.out, hEQ.out]
            exact (hset _).out.keep (fun k _ => rfl)
          | exit id => exact hp.elim
          | goto t => exact hp.elim
          | ret => exact hp.elim
          | panic ch => exact hp.elim
          | outgrown => exact hp.elim
      case done2 =>
        rintro ys2 U hys2 ⟨hr2, hm2, hn2, hb2, hl2, hk2, hp2, hd2⟩
        rw [hys2] at hr2
        obtain ⟨cl, hcl⟩ : ∃ cl, cl = (wy (netOf rs) lx).foldl (chainS lx) st.1 := ⟨_, rfl⟩
        have hcb := chain_bound lx (wy (netOf rs) lx) st.1 _ hlb.1 lx
        rw [← hcl] at hr2 hcb
        have hwl := HWL.out
        obtain ⟨kx, fx⟩ := hr2.cell hxl
        have cb7 := hr2.box
        have cbx2 : U.cell? ⟨bx, 0, none⟩ = some (iv lx) := hb2.cell
        have cb6 : U.cell? ⟨B2, 0, none⟩ = some (.int .i64 st.2) := hm2.cell
        have fb6 : U.frozen? ⟨B2, 0, none⟩ = false := hm2.frozen
        have hrl2 := hr2.lt
        have hbl2 := hb2.lt
        have hml2 := hm2.lt
        have hk4' : (0 : Int) ≤ (lx : Int) := Int.natCast_nonneg _
        have hk5' : (lx : Int) < (rs.length : Int) := by omega
        have HLS : Hid (longS (netOf rs) st lx = (cl, max st.2 cl[lx]!)) := Lib.hid (by unfold longS chainP; rw [← hcl])
        have hm0 := hlb.2
        have hbb0 : ∃ Z : Int, Z ≤ 30000000 ∧ cl[lx]! ≤ Z ∧ st.2 ≤ Z := ⟨30000000, by omega, by omega, by omega⟩
        have H2 : Hid (RowBox (B2 + 1) (B2 + 2) rs.length cl U ∧ Boxed U B2 3 (.int .i64 st.2) ∧ Boxed U w.heap.size 23 (.slice A rs.length c) ∧ Boxed U bx 3 (iv lx) ∧ Below w.heap.size w U ∧ KeepsFrom W4.heap.size V U ∧ (W4.heap.size ≤ U.heap.size ∧ Kps W4.heap.size (fun q => q = B2 + 1 ∨ q = B2) V U)) := Lib.hid ⟨hr2, hm2, hn2, hb2, hl2, hk2, hp2⟩
        clear hcl hr2 hm2 hn2 hb2 hl2 hk2 hp2 hys2 hlb
        generalize cl[lx]! = vx at *
        generalize st.2 = m0 at *
        gi_wp2
        refine wpIn_mono (Q := Exit.then (fun _ W' => W' = U.drew.setCell ⟨B2, 0, none⟩ (.int .i64 (max m0 vx))) (fun _ _ _ => False)) ?reg2 ?aft2
        case reg2 =>
          obtain ⟨Z, hZ1, hZ2, hZ3⟩ := hbb0
          clear H2 HLS HWL HST HNX HPM HN HRW HB1 HBN HE HOL HLL HOV4 HLB HLM hr hm hbn hbl
          refine wpIn_round_still_tail (lp := lp) 6 hmx (by kernel_rfl) (by kernel_rfl) ?_
          simp only [List.take_succ_cons, List.take_zero, List.drop_succ_cons, List.drop_zero]
          repeat still_step
          refine wpStill_nil ?_
          go_wp2
          all_goals first | (rw [Int.max_eq_left (by omega)]; done) | (rw [Int.max_eq_right (by omega)]; done)
        case aft2 =>
          rintro e a' W' hp
          cases e with
          | normal =>
            obtain rfl : W' = _ := hp
            gi_wp2
            obtain ⟨hr2, hm2, hn2, hb2, hl2, hk2, hp2⟩ := H2.out
            have he : Ext (fun q => q = B2) U (U.drew.setCell ⟨B2, 0, none⟩ (.int .i64 (max m0 vx))) := (Ext.of_below (F := fun q => q = B2) (below_draws (Below.refl _ _) 1)).trans (Ext.set (F := fun q => q = B2) U.drew _ rfl) (fun _ h => .inl h)
            have ho : KeepsOthers U (U.drew.setCell ⟨B2, 0, none⟩ (.int .i64 (max m0 vx))) := (KeepsOthers.drew U).trans (KeepsOthers.setCell _ _ _)
            have hzU := hl2.size
            refine ⟨hk2.trans (ho.from _), hp2.2.trans (Kps.ext he hp2.1 (fun _ _ h => .inr h)), ?_, ?_, (he.block _ hn2.lt (by omega)).trans hn2, he.below hl2 (fun i hi => by omega) hzU, Nat.le_trans hp2.1 he.size⟩
            · rw [HPM.out, HNX.out, HLS.out]
              exact hr2.keep (fun k hk => he.block k (by omega) (by omega))
            · rw [HPM.out, HNX.out, HLS.out]
              exact Boxed.set (.int .i64 (max m0 vx)) (W := U.drew) hm2
          | exit id => exact hp.elim
          | goto t => exact hp.elim
          | ret => exact hp.elim
          | panic ch => exact hp.elim
          | outgrown => exact hp.elim
      case stop2 =>
        rintro c' pre2 U _ h
        exact h.elim
    case done =>
      rintro D ys V hD hys ⟨hr, hm, hbn, hbl, hzv⟩ hK
      have hrev : ((List.finRange l.length).reverse.map fun x => l[x.val]!) = l.reverse := by
        rw [List.map_reverse]
        congr 1
        refine List.ext_getElem (by simp) (fun i h1 h2 => ?_)
        simp only [List.getElem_map, List.getElem_finRange]
        rw [getElem!_pos l _ (by simpa using h2)]
        rfl
      rw [hys, hrev, ← HLL.out] at hm
      have cm : V.cell? ⟨B2, 0, none⟩ = some (.int .i64 (longL (netOf rs))) := hm.cell
      have hml := hm.lt
      have HBL := Lib.hid hbl
      have HIE : Hid (longI (netOf rs) = longL (netOf rs) ∧ ordE (netOf rs) = 0) := Lib.hid ⟨HE.out.2.1, HE.out.1⟩
      clear hr hm hbn hbl hys hrev
      generalize longL (netOf rs) = lg at *
      gi_wp2
      refine ⟨by simp, .inl ⟨_, _, rfl, run_takeDeferred hK, ?_⟩⟩
      refine ⟨_, results_tmp2 rfl _ _ _, ?_, ?_⟩
      · rw [HIE.out.1, HIE.out.2]; rfl
      · exact HBL.out.trans ⟨rfl, rfl, rfl, by simp, fun k hk => World.putObj_heap_other (by have := hbw4.size; omega)⟩
    case stop =>
      rintro D c' pre V _ _ h _
      exact h.elim
end Go.Proofs.Ytaagpnepkjkfoaa.R6
