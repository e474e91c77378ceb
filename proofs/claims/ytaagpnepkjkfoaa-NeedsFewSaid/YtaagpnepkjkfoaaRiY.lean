/-
  Contract of Order.
-/
import Derived.Test.YtaagpnepkjkfoaaRiX
import Derived.Maps.OwnIn
namespace Go.Proofs.Ytaagpnepkjkfoaa.R6
open Go.RowKit Go.Shelf Go.Proofs.Ytaagpnepkjkfoaa.B
attribute [local go_sem] Oper.semAt_some

theorem arr42 {t : Array Value} (h : t.size = 42) : ∃ x0 x1 x2 x3 x4 x5 x6 x7 x8 x9 x10 x11 x12 x13 x14 x15 x16 x17 x18 x19 x20 x21 x22 x23 x24 x25 x26 x27 x28 x29 x30 x31 x32 x33 x34 x35 x36 x37 x38 x39 x40 x41, t = List.toArray (x0 :: x1 :: x2 :: x3 :: x4 :: x5 :: x6 :: x7 :: x8 :: x9 :: x10 :: x11 :: x12 :: x13 :: x14 :: x15 :: x16 :: x17 :: x18 :: x19 :: x20 :: x21 :: x22 :: x23 :: x24 :: x25 :: x26 :: x27 :: x28 :: x29 :: x30 :: x31 :: x32 :: x33 :: x34 :: x35 :: x36 :: x37 :: x38 :: x39 :: x40 :: x41 :: []) := by
  obtain ⟨l⟩ := t
  match l, h with
  | x0 :: x1 :: x2 :: x3 :: x4 :: x5 :: x6 :: x7 :: x8 :: x9 :: x10 :: x11 :: x12 :: x13 :: x14 :: x15 :: x16 :: x17 :: x18 :: x19 :: x20 :: x21 :: x22 :: x23 :: x24 :: x25 :: x26 :: x27 :: x28 :: x29 :: x30 :: x31 :: x32 :: x33 :: x34 :: x35 :: x36 :: x37 :: x38 :: x39 :: x40 :: x41 :: [], _ => exact ⟨x0, x1, x2, x3, x4, x5, x6, x7, x8, x9, x10, x11, x12, x13, x14, x15, x16, x17, x18, x19, x20, x21, x22, x23, x24, x25, x26, x27, x28, x29, x30, x31, x32, x33, x34, x35, x36, x37, x38, x39, x40, x41, rfl⟩
/-- A row that a call owns abides a turn of what is no cells. -/
theorem row_own {β : Type} (B e z n : Nat) (v : Value) (xs : List Value) : Own (fun (_ : β) W => W.ownsRow B e z v n xs) := fun s X Y row hs hg hr => hs.kept hg (by
  cases hv : v.ownBlock with
  | none => exact .inl rfl
  | some g =>
    right; intro e'
    obtain ⟨o, ho, hc⟩ := hr g e'.symm
    rcases hs.2 with ⟨rfl, _⟩ | ⟨g', cap, cur, rfl, _, hg', _⟩
    · cases hv
    · simp only [Value.ownBlock, Option.some.injEq] at hv
      subst hv
      rw [hg'] at ho; cases ho; cases hc)
theorem sum_le {f g : Nat → Nat} : ∀ {l : List Nat}, (∀ x ∈ l, f x ≤ g x) → (l.map f).sum ≤ (l.map g).sum
  | [], _ => Nat.le_refl _
  | y :: r, h => by
    rw [List.map_cons, List.map_cons, List.sum_cons, List.sum_cons]
    have := h y (by simp)
    have := sum_le (l := r) (fun x hx => h x (by simp [hx]))
    omega
theorem wait_le {rs : List RW} (hrow : ∀ r ∈ rs, r.l.length ≤ 100000) (o : List Nat) {x : Nat} (hx : x < rs.length) : -1 ≤ (waitL (netOf rs) o)[x]! ∧ (waitL (netOf rs) o)[x]! ≤ rs.length * 100000 := by
  have hnl : (netOf rs).length = rs.length := net_len _
  have h1 := (count_le hrow x rs.length).2
  have h2 := count_all (netOf rs)
  rw [hnl] at h2
  rw [h2, wait_at (by rw [hnl]; exact hx)] at h1
  rw [wait_at (by rw [hnl]; exact hx)]
  unfold waitI at h1 ⊢
  rw [if_neg (by simp)] at h1
  have h3 : cntW (netOf rs) o x ≤ cntW (netOf rs) [] x := sum_le (fun a _ => by
    split
    · omega
    · simp)
  split
  · omega
  · omega

/-- The frame of Order at the head of its loop; in a round of its inner one. -/
structure OF (bw N k : Nat) (v u : Value) (ds : List Nat) (a : Act) : Prop where
  z : a.tmps.size = 42
  s0 : a.tmps.getD 0 undef = v
  s4 : a.tmps.getD 4 undef = u
  s5 : a.tmps.getD 5 undef = pt bw
  s18 : a.tmps.getD 18 undef = .int .i64 N
  s19 : a.tmps.getD 19 undef = .int .i64 k
  d : a.defers = mks ds
structure OB (bw : Nat) (x : Nat) (a : Act) : Prop where
  z : a.tmps.size = 42
  s5 : a.tmps.getD 5 undef = pt bw
  s7 : a.tmps.getD 7 undef = iv x
  d : a.defers = []
/-- Between two rounds. -/
structure OJ (w : World) (g bw N k : Nat) (l : List Int) (o : List Nat) (u : Value) (ds : List Nat) (W : World) : Prop where
  r : RowBox g bw N l W
  u : W.ownsRow (bw + 1) 3 1 u k (o.map iv)
  b : Below w.heap.size w W
  m : Mk w.heap.size ds W
def ordI (n : NetL) : List Nat := if leadsB n then [] else ordL n n.length
def ordE (n : NetL) : Int := if leadsB n then 7 else 0
/-- What Order answers. -/
structure OrderEnd (w : World) (n : NetL) (e : Ending) (w' : World) : Prop where
  b : Below w.heap.size w w'
  r : ∃ v, e = .returned (.tuple #[v, .int .i64 (ordE n)]) ∧ w'.ownsRow w.heap.size 3 1 v (ordI n).length ((ordI n).map iv) ∧ (leadsB n = true → v = .slice none 0 0)
theorem leadsB_no {n : NetL} (h : leadsB n = false) : ∀ a, ¬ Ld n a a := fun a ha => by
  have := (leadsB_iff n).2 ⟨a, ha⟩
  rw [h] at this; cases this

set_option maxRecDepth 100000 in
set_option maxHeartbeats 8000000 in
theorem order_any (w : World) (A : Option Addr) (c : Nat) (rs : List RW) (hn : NetIn w A rs) (hN : rs.length ≤ 200) (hrow : ∀ r ∈ rs, r.l.length ≤ 100000) :
    Calls Try.prog 9 #[.slice A rs.length c] w (OrderEnd w (netOf rs)) := by
  obtain ⟨i0, hi0, hi1, hi2, hi3⟩ := info_parts info_int'
  have hnl : (netOf rs).length = rs.length := net_len _
  have CL := Lib.hid (leads_any w A c rs hn (by omega) hrow)
  have HN := Lib.hid hn
  have HRW := Lib.hid hrow
  clear hn hrow
  cases hl : leadsB (netOf rs) with
  | true =>
    have HE : Hid (ordE (netOf rs) = 7 ∧ ordI (netOf rs) = []) := Lib.hid (by unfold ordE ordI; rw [hl]; exact ⟨rfl, rfl⟩)
    rw [hl] at CL
    clear hl
    go_enter Try.func9, Try.ntmps9
    go_wp2_with fail
    refine CL.out.mono ?_
    rintro e w2 ⟨rfl, hb2⟩
    have HB := Lib.hid hb2
    clear hb2 CL
    go_wp2_with fail
    go_ret2
    exact ⟨HB.out, _, by rw [HE.out.1]; rfl, by rw [HE.out.2]; exact World.ownsRow_nil _ _ _ _, fun _ => rfl⟩
  | false =>
    have hac := leadsB_no hl
    have HE : Hid (ordE (netOf rs) = 0 ∧ ordI (netOf rs) = ordL (netOf rs) rs.length) := Lib.hid (by unfold ordE ordI; rw [hl, hnl]; exact ⟨rfl, rfl⟩)
    have HLF := Lib.hid hl
    have HAC := Lib.hid hac
    have h200 : decide ((200 : Int) < (rs.length : Int)) = false := by rw [decide_eq_false_iff_not]; omega
    rw [hl] at CL
    clear hl hac
    refine (callsIn_wide (n := 8)).1 ?_
    refine callsIn_of_wp_marks Try.func9 rfl trivial ?_ rfl
    simp only [Try.ntmps9, List.size_toArray, List.length_cons, List.length_nil, Nat.reduceAdd, Nat.reduceSub, Array.replicate_succ, Array.replicate_zero, List.push_toArray, List.append_toArray, List.nil_append, List.cons_append]
    gi_wp2_with (refine ⟨trivial, ?_⟩; gi_at_call 40; refine (callsIn_wide.2 CL.out).mono ?_; rintro e w' ⟨rfl, hb2⟩)
    refine ⟨trivial, ?_⟩
    refine (callsIn_wide.2 (waits_any w' A c rs (HN.out.below (Nat.le_refl _) hb2) (by omega) HRW.out)).mono ?_
    rintro e w2 ⟨rfl, ho2, hb3⟩
    have hcw := count_all (netOf rs)
    rw [hnl] at hcw
    rw [hcw] at ho2
    have hbw2 : Below w.heap.size w w2 := hb2.trans (hb3.mono hb2.size)
    have hz0 := hb2.size
    have hz1 := hb3.size
    generalize w'.heap.size = g at *
    have hgl := (own_block ho2 rfl).2
    have HO2 := Lib.hid ho2
    have HB2 := Lib.hid hbw2
    clear hb2 hb3 ho2 hbw2 hcw CL
    gi_wp2
    have h0 : OJ w g w2.heap.size rs.length 0 (waitL (netOf rs) (ordL (netOf rs) 0)) (ordL (netOf rs) 0) (.slice none 0 0) [] (w2.alloc (.cells #[rowAt g rs.length] 26)) :=
      ⟨⟨_, Boxed.new _ _ _, HO2.out.alloc _, rfl⟩, World.ownsRow_nil _ _ _ _, HB2.out.alloc HB2.out.size _, ⟨fun D h => (by cases h), List.nodup_nil⟩⟩
    have H0 := Lib.hid h0
    have hgw : g < w2.heap.size := hgl
    have hzw2 : w.heap.size ≤ w2.heap.size := HB2.out.size
    clear h0 HO2 HB2 hgl
    generalize w2.heap.size = bw at *
    refine wpIn_loop (fun a wr => ∃ k u ds, k ≤ rs.length ∧ OF bw rs.length k (.slice A rs.length c) u ds a ∧ OJ w g bw rs.length k (waitL (netOf rs) (ordL (netOf rs) k)) (ordL (netOf rs) k) u ds wr) (fun a _ => rs.length - (intOf (a.tmps.getD 19 undef)).toNat) ⟨0, _, [], Nat.zero_le _, ⟨rfl, rfl, rfl, rfl, rfl, rfl, rfl⟩, H0.out⟩ ?_
    clear H0
    rintro ⟨tm, df⟩ wr ⟨k, u, ds, hk, hf, ht⟩
    obtain ⟨x0, x1, x2, x3, x4, x5, x6, x7, x8, x9, x10, x11, x12, x13, x14, x15, x16, x17, x18, x19, x20, x21, x22, x23, x24, x25, x26, x27, x28, x29, x30, x31, x32, x33, x34, x35, x36, x37, x38, x39, x40, x41, rfl⟩ := arr42 hf.z
    obtain rfl : x0 = _ := hf.s0
    obtain rfl : x4 = _ := hf.s4
    obtain rfl : x5 = _ := hf.s5
    obtain rfl : x18 = _ := hf.s18
    obtain rfl : x19 = _ := hf.s19
    obtain rfl : df = _ := hf.d
    have HT := Lib.hid ht
    have hzr := ht.b.size
    have hlr := ht.r.lt
    obtain ⟨ua, uc, rfl⟩ := own_slice ht.u
    clear hf ht
    by_cases hlt : k < rs.length
    · have hk0 : (0 : Int) ≤ (k : Int) := Int.natCast_nonneg _
      have hk1 : (k : Int) < (rs.length : Int) := by omega
      obtain ⟨i, hi, hoe⟩ := ord_next HAC.out (k := k) (by rw [hnl]; exact hlt)
      have hoi := (ord_ok HAC.out k (by rw [hnl]; omega)).1
      obtain ⟨n1, n2, n3, n4, n5, n6⟩ := next_facts HAC.out hoi hi
      rw [hnl] at n1
      have hwl := wait_len (netOf rs) (ordL (netOf rs) k)
      rw [hnl] at hwl
      have hix : idxB (eqP 0) (waitL (netOf rs) (ordL (netOf rs) k)) = (i : Int) := idxB_hit (by rw [hwl]; exact n1) (by simp only [eqP, beq_iff_eq]; exact n3) (fun j hj => by simp only [eqP, beq_eq_false_iff_ne]; exact n4 j hj)
      obtain ⟨v, hv1, hv2, rfl⟩ := HT.out.r
      have CI := Lib.hid (index_any wr (some ⟨g, 0, none⟩) rs.length (waitL (netOf rs) (ordL (netOf rs) k)) 0 (Row.of_own hv2) (by omega))
      rw [hix, hwl] at CI
      have HWS := Lib.hid (wait_step (by rw [hnl]; exact n1) n2 n5 n6)
      rw [← hoe] at HWS
      have HOE := Lib.hid hoe
      have hi0' : (0 : Int) ≤ (i : Int) := Int.natCast_nonneg _
      have hi1' : (i : Int) < (rs.length : Int) := by omega
      have cb := HT.out.r.box
      obtain ⟨ci, fi⟩ := HT.out.r.cell n1
      rw [n3] at ci
      have HWL0 := fun x hx => Lib.hid (wait_le HRW.out (ordL (netOf rs) k) (x := x) hx)
      have hset := Lib.hid (HT.out.r.set (by omega) i (-1))
      generalize waitL (netOf rs) (ordL (netOf rs) k) = wl at *
      have hlen' : (ordL (netOf rs) k).length = k := (ord_ok HAC.out k (by rw [hnl]; omega)).2
      have hwlen : wl.length = rs.length := hwl
      clear hi hoi n2 n3 n4 n5 n6 hwl hix hoe hv1 hv2
      gi_wp2_with (refine ⟨trivial, ?_⟩; gi_at_call 42; refine (callsIn_wide.2 CI.out).mono ?_; rintro e w' ⟨rfl, rfl⟩)
      obtain ⟨W1, hW1⟩ : ∃ W1, W1 = w'.setCell ⟨g, i, none⟩ (.int .i64 (-1)) := ⟨_, rfl⟩
      have he1 : Ext (fun q => q = g) w' W1 := by rw [hW1]; exact Ext.set (F := fun q => q = g) w' _ rfl
      have hko1 : KeepsOthers w' W1 := by rw [hW1]; exact KeepsOthers.setCell _ _ _
      rw [← hW1] at hset ⊢
      have hs1 : W1.heap.size = w'.heap.size := by rw [hW1]; exact World.size_setCell _ _ _
      have hb1 : Below w.heap.size w W1 := he1.below HT.out.b (fun q hq => by omega) hzr
      have hu1 : W1.ownsRow (bw + 1) 3 1 (.slice ua k uc) k ((ordL (netOf rs) k).map iv) := own_keep HT.out.u (fun q hq => he1.block q (own_block HT.out.u hq).2 (fun e => by have := (own_block HT.out.u hq).1; omega))
      have hm1 : Mk w.heap.size ds W1 := HT.out.m.keeps (hko1.from _)
      have HS1 := Lib.hid hs1
      clear hW1 he1 hko1 hs1
      refine ⟨trivial, ?_⟩
      refine (ways_any _ A rs.length c i W1).mono ?_
      rintro e w' ⟨rfl, rfl⟩
      gi_wp2
      have hs1 := HS1.out
      obtain ⟨Wd, hWd⟩ : ∃ Wd, Wd = ((W1.alloc (.cells #[.slice A rs.length c] 23)).alloc (.cells #[iv i] 3)) := ⟨_, rfl⟩
      have hsd : Wd.heap.size = W1.heap.size + 2 := by rw [hWd, World.size_alloc, World.size_alloc]
      have hbd : Below W1.heap.size W1 Wd := by rw [hWd]; exact ((Below.refl _ W1).alloc (Nat.le_refl _) _).alloc (by rw [World.size_alloc]; omega) _
      have hx0 : Wd.heap[W1.heap.size]? = some (.cells #[.slice A rs.length c] 23 (0, 0)) := by rw [hWd]; exact heap_old (by rw [World.size_alloc]; omega) (heap_new _ _)
      have hx1 : Wd.heap[W1.heap.size + 1]? = some (.cells #[iv i] 3 (0, 0)) := by
        rw [hWd]; have := heap_new (W1.alloc (.cells #[.slice A rs.length c] 23)) (.cells #[iv i] 3)
        rw [World.size_alloc] at this; exact this
      have hmd : Mk w.heap.size ds Wd := by rw [hWd]; exact (hm1.alloc _).alloc _
      show Code.wpIn _ _ _ _ _ _ ((W1.alloc (.cells #[.slice A rs.length c] 23)).alloc (.cells #[iv i] 3))
      rw [← hWd]
      clear hWd
      have hrd : RowBox g bw rs.length (wl.set i (-1)) Wd := hset.out.keep (fun q hq => hbd.block q (by omega))
      have hud : Wd.ownsRow (bw + 1) 3 1 (.slice ua k uc) k ((ordL (netOf rs) k).map iv) := own_below hu1 hbd
      have hbwd : Below w.heap.size w Wd := hb1.trans (hbd.mono (by omega))
      have HWL := Lib.hid (wy_len HRW.out i)
      refine wpIn_rangeFunc_ownH (α := Fin rs.length) rfl (by omega) (gf := 71) (lb := #[pt W1.heap.size, pt (W1.heap.size + 1)]) rfl trivial (enters_of Try.func71 (by kernel_rfl) rfl)
        (encs := fun x => #[iv x.val]) (Kp := Kps Wd.heap.size (fun q => q = g)) (S := fun ys => ys.map (·.val) = wy (netOf rs) i) (Sp := fun _ => True) (N := (wy (netOf rs) i).length) (w0 := Wd)
        ?seq Kps.trans ?kb (Below.refl _ _) (fun _ => rfl)
        (fun pre V => RowBox g bw rs.length (addL (-1) (pre.map (·.val)) (wl.set i (-1))) V ∧ V.ownsRow (bw + 1) 3 1 (.slice ua k uc) k ((ordL (netOf rs) k).map iv) ∧ Below w.heap.size w V ∧ KeepsFrom w.heap.size Wd V) (fun _ _ _ => False)
        ?own (fun _ _ _ _ _ hs _ _ => hs) ⟨hrd, hud, hbwd, KeepsFrom.refl _ _⟩ (fun x a' _ => OB bw x.val a') (fun _ _ _ _ _ _ hs _ _ => hs) ?assign ?body ?done ?stop
      case seq =>
        exact ways_seq HN.out HRW.out 7 (by omega) W1.heap.size i n1 hbwd Wd.heap.size (fun q => q = g) (fun q hq => by omega) hx0 hx1 (by omega) (by omega) (by omega)
      case kb => exact Kps.put (Nat.le_refl _)
      case own => exact OwnFrom.and ((rowBox_own _ _ _ _).from _) (OwnFrom.and ((row_own _ _ _ _ _ _).from _) (OwnFrom.and (ownFrom_below (Nat.le_refl _) (by omega)) (ownFrom_keepsFrom (Nat.le_refl _))))
      case assign =>
        rintro lp pre x V K hi hK
        gi_wp2
        exact hK _ _ (KeepsFrom.refl _ _) (Kps.refl _ _ _) hi ⟨rfl, rfl, rfl, rfl⟩
      case body =>
        rintro lp pre x ⟨tm, df⟩ V _ _ ⟨hr, hu, hbl, hkf⟩ hx hlen
        obtain ⟨y0, y1, y2, y3, y4, y5, y6, y7, y8, y9, y10, y11, y12, y13, y14, y15, y16, y17, y18, y19, y20, y21, y22, y23, y24, y25, y26, y27, y28, y29, y30, y31, y32, y33, y34, y35, y36, y37, y38, y39, y40, y41, rfl⟩ := arr42 hx.z
        obtain rfl : y5 = _ := hx.s5
        obtain rfl : y7 = _ := hx.s7
        obtain rfl : df = _ := hx.d
        have hxl := x.isLt
        have cb := hr.box
        obtain ⟨cx, fx⟩ := hr.cell hxl
        have hll := hr.lt
        have hk2 : (0 : Int) ≤ (x.val : Int) := Int.natCast_nonneg _
        have hk3 : (x.val : Int) < (rs.length : Int) := by omega
        have hval := addL_at (-1) (pre.map (·.val)) (wl.set i (-1)) x.val (fun t ht => by
          obtain ⟨z, _, rfl⟩ := List.mem_map.1 ht
          rw [List.length_set, hwlen]; exact z.isLt)
        have hsg := set_get (l := wl) (k := i) (j := x.val) (y := (-1 : Int)) (by omega)
        have hcl := (HWL0 x.val hxl).out
        have hct : (pre.map (·.val)).count x.val ≤ 100000 := by
          have h1 : (pre.map (fun y : Fin rs.length => y.val)).count x.val ≤ (pre.map (fun y : Fin rs.length => y.val)).length := List.count_le_length
          rw [List.length_map] at h1
          have := HWL.out
          omega
        have HS := Lib.hid (addL_snoc (-1) (pre.map (·.val)) x.val (wl.set i (-1)))
        have hset2 := fun i => Lib.hid (hr.set (by omega) x.val i)
        have hb0 : -1000000000 ≤ (addL (-1) (pre.map (·.val)) (wl.set i (-1)))[x.val]! ∧ (addL (-1) (pre.map (·.val)) (wl.set i (-1)))[x.val]! ≤ 1000000000 := by
          rw [hval, hsg]
          split <;> omega
        have HBL := Lib.hid hbl
        have HKF := Lib.hid hkf
        have HU := Lib.hid hu
        have hzV := hbl.size
        clear hval hcl hct hr hu hbl hkf hx hlen hsg hset
        generalize (addL (-1) (pre.map (·.val)) (wl.set i (-1)))[x.val]! = z at *
        gi_wp2
        have he : Ext (fun q => q = g) V (V.setCell ⟨g, x.val, none⟩ (.int .i64 (z - 1))) := Ext.set (F := fun q => q = g) V _ rfl
        have ho : KeepsOthers V (V.setCell ⟨g, x.val, none⟩ (.int .i64 (z - 1))) := KeepsOthers.setCell _ _ _
        refine ⟨ho.from _, Kps.ext he HKF.out.size (fun _ _ h => h), ?_, own_keep HU.out (fun q hq => he.block q (own_block HU.out hq).2 (fun e => by have := (own_block HU.out hq).1; omega)), he.below HBL.out (fun i hi => by omega) hzV, HKF.out.trans (ho.from _)⟩
        have h1 := (hset2 (z - 1)).out
        rw [show z - 1 = z + (-1) by omega, ← HS.out] at h1
        rw [List.map_append, show z - 1 = z + (-1) by omega]
        exact h1
      case done =>
        rintro D ys V hD hys ⟨hr, hu, hbl, hkf⟩ hK
        rw [hys, HWS.out] at hr
        have hmk := hmd.cons (by omega) (by omega) hkf hK
        have HR2 := Lib.hid hr
        have HB2 := Lib.hid hbl
        have HM2 := Lib.hid hmk
        have HU2 := Lib.hid hu
        have hzV := hbl.size
        have hlV := hr.lt
        clear hr hbl hmk hu hkf hK hset
        gi_wp2_with (gi_at_builtin; refine wpListIn_append_own_at _ rfl (.tmp 36) (.tmp 38) 26 rfl (bw + 1) 3 i0 _ 1 8 Try.underlying26 hi0 hi1 hi2 hi3 rfl (by omega) _ _ _ rfl (HU2.out.alloc _) ⟨V.heap.size, 0, none⟩ 1 1 [iv i] rfl rfl ?c1 ?c2 ?c3 ?c4 ?c5 ?_)
        case c1 =>
          intro j v hj
          have hn := heap_new V (.cells #[iv i] 3)
          match j, hj with
          | 0, hj => cases hj; exact cell_blk hn rfl
        case c2 => intro v hv; simp at hv; rw [hv]; rfl
        case c3 => unfold maxLen; omega
        case c4 => omega
        case c5 => rw [World.size_alloc]; omega
        intro v' w4 hown' hgrow _ hat
        have hne : ∀ q, q ≤ bw → some q ≠ (Value.slice ua k uc).ownBlock := fun q hq e => by have := (own_block HU2.out e.symm).1; omega
        have hbV : Below V.heap.size V (V.alloc (.cells #[iv i] 3)) := (Below.refl _ _).alloc (Nat.le_refl _) _
        have hzg := hgrow.size
        have hblk : ∀ q, q ≤ bw → w4.heap[q]? = V.heap[q]? := fun q hq => (hgrow.block q (by rw [World.size_alloc]; omega) (hne q hq)).trans (hbV.block q (by omega))
        have hr4 : RowBox g bw rs.length (waitL (netOf rs) (ordL (netOf rs) (k + 1))) w4 := HR2.out.keep (fun q hq => hblk q (by omega))
        have hb4 : Below w.heap.size w w4 := (HB2.out.alloc hzV _).grown hgrow (by rw [World.size_alloc]; omega) (fun j hj => by have := (own_block HU2.out hj).1; omega)
        have hko : KeepsOthers V w4 := (KeepsOthers.alloc V _).trans (KeepsOthers.of_grownBy hgrow (fun j o hj ho => by
          rcases HU2.out.2 with ⟨e, _⟩ | ⟨g', cap, cur, e, _, hg', _⟩
          · rw [e] at hj; cases hj
          · rw [e] at hj
            simp only [Value.ownBlock, Option.some.injEq] at hj
            subst hj
            rw [hbV.block g' (blk_lt hg'), hg'] at ho; cases ho; rfl))
        have hm4 := HM2.out.keeps (hko.from w.heap.size)
        have hu4 : w4.ownsRow (bw + 1) 3 1 v' (k + 1) ((ordL (netOf rs) (k + 1)).map iv) := by rw [HOE.out, List.map_append]; exact hown'
        have HR4 := Lib.hid hr4
        have HB4 := Lib.hid hb4
        have HM4 := Lib.hid hm4
        have HU4 := Lib.hid hu4
        clear hown' hgrow hat hr4 hb4 hm4 hu4 hko hbV hne hblk HR2 HB2 HM2 HU2
        gi_wp2
        refine ⟨⟨k + 1, v', D :: ds, hlt, ⟨rfl, rfl, rfl, rfl, rfl, ?_, rfl⟩, ⟨HR4.out, HU4.out, HB4.out, HM4.out⟩⟩, ?_⟩
        · show Value.int .i64 ((k : Int) + 1) = _; go_num
        · simp [intOf]; omega
      case stop =>
        rintro D c' pre V _ _ h _
        exact h.elim
    · obtain rfl : k = rs.length := by omega
      gi_wp2
      have hlen' : (ordL (netOf rs) rs.length).length = rs.length := (ord_ok HAC.out rs.length (by rw [hnl]; exact Nat.le_refl _)).2
      exact leave_marks (J := fun (_ : Unit) V => V.ownsRow (bw + 1) 3 1 (.slice ua rs.length uc) rs.length ((ordL (netOf rs) rs.length).map iv) ∧ Below w.heap.size w V) (OwnFrom.and ((row_own _ _ _ _ _ _).from _) (ownFrom_below (Nat.le_refl _) (Nat.le_refl _))) ()
        (fun V h => ⟨_, results_tmp2 rfl _ _ _, h.2, _, by rw [HE.out.1]; rfl, by rw [HE.out.2, hlen']; exact own_base h.1 (by omega), fun e => by rw [HLF.out] at e; cases e⟩) ds wr HT.out.m.n HT.out.m.d ⟨HT.out.u, HT.out.b⟩
end Go.Proofs.Ytaagpnepkjkfoaa.R6
