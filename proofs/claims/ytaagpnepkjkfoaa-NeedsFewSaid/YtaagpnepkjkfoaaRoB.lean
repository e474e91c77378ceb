/-
  Contract of Turn.
-/
import Derived.Test.YtaagpnepkjkfoaaRoP
namespace Go.Proofs.Ytaagpnepkjkfoaa.R6
open Go.RowKit Go.Shelf Go.Proofs.Ytaagpnepkjkfoaa.B
attribute [local go_sem] Oper.semAt_some

theorem arr45 {t : Array Value} (h : t.size = 45) : ∃ x0 x1 x2 x3 x4 x5 x6 x7 x8 x9 x10 x11 x12 x13 x14 x15 x16 x17 x18 x19 x20 x21 x22 x23 x24 x25 x26 x27 x28 x29 x30 x31 x32 x33 x34 x35 x36 x37 x38 x39 x40 x41 x42 x43 x44, t = List.toArray (x0 :: x1 :: x2 :: x3 :: x4 :: x5 :: x6 :: x7 :: x8 :: x9 :: x10 :: x11 :: x12 :: x13 :: x14 :: x15 :: x16 :: x17 :: x18 :: x19 :: x20 :: x21 :: x22 :: x23 :: x24 :: x25 :: x26 :: x27 :: x28 :: x29 :: x30 :: x31 :: x32 :: x33 :: x34 :: x35 :: x36 :: x37 :: x38 :: x39 :: x40 :: x41 :: x42 :: x43 :: x44 :: []) := by
  obtain ⟨l⟩ := t
  match l, h with
  | x0 :: x1 :: x2 :: x3 :: x4 :: x5 :: x6 :: x7 :: x8 :: x9 :: x10 :: x11 :: x12 :: x13 :: x14 :: x15 :: x16 :: x17 :: x18 :: x19 :: x20 :: x21 :: x22 :: x23 :: x24 :: x25 :: x26 :: x27 :: x28 :: x29 :: x30 :: x31 :: x32 :: x33 :: x34 :: x35 :: x36 :: x37 :: x38 :: x39 :: x40 :: x41 :: x42 :: x43 :: x44 :: [], _ => exact ⟨x0, x1, x2, x3, x4, x5, x6, x7, x8, x9, x10, x11, x12, x13, x14, x15, x16, x17, x18, x19, x20, x21, x22, x23, x24, x25, x26, x27, x28, x29, x30, x31, x32, x33, x34, x35, x36, x37, x38, x39, x40, x41, x42, x43, x44, rfl⟩
theorem nils_row (n : Nat) : madeCells #[Value.slice none 0 0] n = (List.replicate n (Value.slice none 0 0)).toArray := by
  refine Array.ext (by simp [size_madeCells]) (fun i h1 h2 => ?_)
  simp [madeCells, Nat.mod_one]
theorem info_row : (Try.prog.info? 26).map (fun i => (i.zero, i.size, i.bytes)) = some (some (.slice none 0 0), 1, 24) := by kernel_rfl
theorem make_rows (n : Nat) (hn : n ≤ 100000) (W : World) : (Instr.makeSlice 23 (.int .i64 n) (.int .i64 n)).run Try.prog W = .ok (.slice (some ⟨W.heap.size, 0, none⟩) n n) (W.alloc (.cells (List.replicate n (Value.slice none 0 0)).toArray 26)) := by
  obtain ⟨i0, hi0, hi1, hi2, hi3⟩ := info_parts info_row
  have h := run_make (P := Try.prog) W 23 26 i0 _ Try.underlying23 hi0 hi1 .i64 .i64 n n (by omega) (by omega) (by rw [hi3]; omega) (by omega)
  rw [hi2, Nat.mul_one, Int.toNat_natCast] at h
  exact h.trans (by rw [← nils_row]; rfl)
theorem orows_nil {W : World} {g Bo Bi N : Nat} (hB : Bo ≤ g) (h : W.heap[g]? = some (.cells (List.replicate N (Value.slice none 0 0)).toArray 26 (0, 0))) (hN : N ≤ 100000) (ls : List (List Int)) (hl : ls.length = N) (hz : ∀ i : Nat, i < N → ls[i]! = []) : ORows Bo Bi W (rowAt g N) ls := by
  subst hl
  have hget : ∀ i : Nat, i < ls.length → (List.replicate ls.length (Value.slice none 0 0))[i]! = .slice none 0 0 := fun i hi => by rw [getElem!_pos _ i (by simpa using hi)]; simp
  refine ⟨List.replicate ls.length (Value.slice none 0 0), by simp, own_all hB h (by simp) hN, fun i hi => ?_, fun i j hi hj _ q hq => ?_⟩
  · rw [hget i hi, hz i hi]; exact World.ownsRow_nil _ _ _ _
  · rw [hget i hi] at hq; cases hq
/-- The frame of Turn at the head of its loop; in a round of its inner one. -/
structure TF (g N k : Nat) (v : Value) (ds : List Nat) (a : Act) : Prop where
  z : a.tmps.size = 45
  s0 : a.tmps.getD 0 undef = v
  s3 : a.tmps.getD 3 undef = pt (g + 1)
  s11 : a.tmps.getD 11 undef = .int .i64 N
  s12 : a.tmps.getD 12 undef = .int .i64 k
  d : a.defers = mks ds
structure TB (g bx x : Nat) (a : Act) : Prop where
  z : a.tmps.size = 45
  s3 : a.tmps.getD 3 undef = pt (g + 1)
  s4 : a.tmps.getD 4 undef = pt bx
  s5 : a.tmps.getD 5 undef = iv x
  d : a.defers = []
/-- Rows that lie where p says. -/
def ORp (Bo Bi : Nat) (p : Nat → Prop) (W : World) (v : Value) (ls : List (List Int)) : Prop := ∃ vs, ORv Bo Bi W v vs ls ∧ ∀ i : Nat, i < ls.length → ∀ q, vs[i]!.ownBlock = some q → p q
theorem ORp.own {β : Type} (Bo Bi : Nat) (p : Nat → Prop) (v : Value) (f : β → List (List Int)) : Own (fun s W => ORp Bo Bi p W v (f s)) := fun s X Y row hs hg hr => by
  obtain ⟨vs, h, hp⟩ := hs
  exact ⟨vs, ⟨h.len, row_own (β := Unit) _ _ _ _ _ _ () X Y row h.out hg hr, fun i hi => row_own (β := Unit) _ _ _ _ _ _ () X Y row (h.inn i hi) hg hr, h.dis⟩, hp⟩
/-- Between two rounds. -/
structure TNI (w : World) (N : Nat) (ls : NetL) (ds : List Nat) (W : World) : Prop where
  r : ORows w.heap.size (w.heap.size + 2) W (rowAt w.heap.size N) ls
  x : Boxed W (w.heap.size + 1) 23 (rowAt w.heap.size N)
  b : Below w.heap.size w W
  m : Mk w.heap.size ds W

set_option maxRecDepth 100000 in
set_option maxHeartbeats 8000000 in
theorem turn_any (w : World) (A : Option Addr) (c : Nat) (rs : List RW) (hn : NetIn w A rs) (hN : rs.length ≤ 900) (hrow : ∀ r ∈ rs, r.l.length ≤ 100000) :
    Calls Try.prog 20 #[.slice A rs.length c] w fun e w' => e = .returned (rowAt w.heap.size rs.length) ∧ ORows w.heap.size (w.heap.size + 2) w' (rowAt w.heap.size rs.length) (turnL (netOf rs)) ∧ Below w.heap.size w w' := by
  refine (callsIn_wide (n := 8)).1 ?_
  have hb := make_rows rs.length (by omega)
  obtain ⟨cs, hcs⟩ : ∃ cs, cs = (List.replicate rs.length (Value.slice none 0 0)).toArray := ⟨_, rfl⟩
  rw [← hcs] at hb
  have hnl : (netOf rs).length = rs.length := net_len _
  refine callsIn_of_wp_marks Try.func20 rfl trivial ?_ rfl
  simp only [Try.ntmps20, List.size_toArray, List.length_cons, List.length_nil, Nat.reduceAdd, Nat.reduceSub, Array.replicate_succ, Array.replicate_zero, List.push_toArray, List.append_toArray, List.nil_append, List.cons_append]
  have HCS := Lib.hid hcs
  clear hcs
  gi_wp2
  have h0 : TNI w rs.length (tuL (netOf rs) 0 []) [] ((w.alloc (.cells cs 26)).alloc (.cells #[rowAt w.heap.size rs.length] 23)) := by
    refine ⟨orows_nil (Nat.le_refl _) ?_ (by omega) _ (by rw [tuL_len, hnl]) (fun i hi => by rw [tuL_at _ (by rw [hnl]; exact hi), toL_zero]; simp), ?_, ((Below.refl _ w).alloc (Nat.le_refl _) _).alloc (by rw [World.size_alloc]; omega) _, ⟨fun D h => (by cases h), List.nodup_nil⟩⟩
    · refine (heap_old (by rw [World.size_alloc]; omega) (heap_new _ _)).trans ?_
      rw [HCS.out]
    · have := heap_new (w.alloc (.cells cs 26)) (.cells #[rowAt w.heap.size rs.length] 23)
      rw [World.size_alloc] at this; exact this
  have H0 := Lib.hid h0
  have HN := Lib.hid hn
  have HRW := Lib.hid hrow
  clear h0 hb hn hrow HCS
  refine wpIn_loop (fun a wr => ∃ k ds, k ≤ rs.length ∧ TF w.heap.size rs.length k (.slice A rs.length c) ds a ∧ TNI w rs.length (tuL (netOf rs) k []) ds wr) (fun a _ => rs.length - (intOf (a.tmps.getD 12 undef)).toNat) ⟨0, [], Nat.zero_le _, ⟨rfl, rfl, rfl, rfl, rfl, rfl⟩, H0.out⟩ ?_
  clear H0
  rintro ⟨tm, df⟩ wr ⟨k, ds, hk, hf, ht⟩
  obtain ⟨x0, x1, x2, x3, x4, x5, x6, x7, x8, x9, x10, x11, x12, x13, x14, x15, x16, x17, x18, x19, x20, x21, x22, x23, x24, x25, x26, x27, x28, x29, x30, x31, x32, x33, x34, x35, x36, x37, x38, x39, x40, x41, x42, x43, x44, rfl⟩ := arr45 hf.z
  obtain rfl : x0 = _ := hf.s0
  obtain rfl : x3 = _ := hf.s3
  obtain rfl : x11 = _ := hf.s11
  obtain rfl : x12 = _ := hf.s12
  obtain rfl : df = _ := hf.d
  have HT := Lib.hid ht
  have hzr := ht.b.size
  have hlr := ht.x.lt
  have hcx := ht.x.cell
  clear hf ht
  by_cases hlt : k < rs.length
  · have hk0 : (0 : Int) ≤ (k : Int) := Int.natCast_nonneg _
    have hk1 : (k : Int) < (rs.length : Int) := by omega
    gi_wp2_with (refine ⟨trivial, ?_⟩; gi_at_call 43; refine (ways_any _ A rs.length c k _).mono ?_; rintro e w' ⟨rfl, rfl⟩)
    obtain ⟨Wd, hWd⟩ : ∃ Wd, Wd = (((wr.alloc (.cells #[iv k] 3)).alloc (.cells #[.slice A rs.length c] 23)).alloc (.cells #[iv k] 3)) := ⟨_, rfl⟩
    have hal : Wd = [Obj.cells #[iv k] 3, .cells #[.slice A rs.length c] 23, .cells #[iv k] 3].foldl World.alloc wr := hWd
    have hsd : Wd.heap.size = wr.heap.size + 3 := by rw [hal, allocs_size]; rfl
    have hbd : Below wr.heap.size wr Wd := by rw [hal]; exact allocs_below _ _ (Nat.le_refl _)
    have hx2 : Wd.heap[wr.heap.size]? = some (.cells #[iv k] 3 (0, 0)) := by rw [hal]; exact allocs_at _ wr 0 (by simp)
    have hx0 : Wd.heap[wr.heap.size + 1]? = some (.cells #[.slice A rs.length c] 23 (0, 0)) := by rw [hal]; exact allocs_at _ wr 1 (by simp)
    have hx1 : Wd.heap[wr.heap.size + 1 + 1]? = some (.cells #[iv k] 3 (0, 0)) := by rw [hal]; exact allocs_at _ wr 2 (by simp)
    show Code.wpIn _ _ _ _ _ _ (((wr.alloc (.cells #[iv k] 3)).alloc (.cells #[.slice A rs.length c] 23)).alloc (.cells #[iv k] 3))
    rw [← hWd]
    clear hWd hal
    have hmd : Mk w.heap.size ds Wd := HT.out.m.keeps ⟨hbd.size, fun q o _ ho _ => (hbd.block q (Array.getElem?_eq_some_iff.1 ho).1).trans ho⟩
    have hrd : ORp w.heap.size (w.heap.size + 2) (fun q => q < wr.heap.size ∨ Wd.heap.size ≤ q) Wd (rowAt w.heap.size rs.length) (tuL (netOf rs) k []) := by
      obtain ⟨vs, hv⟩ := HT.out.r
      exact ⟨vs, hv.keep (fun q hq => hbd.block q (by
        rcases hq with hq | ⟨i, hi, hq⟩
        · exact (own_block hv.out hq).2
        · exact (own_block (hv.inn i hi) hq).2)), fun i hi q hq => .inl (own_block (hv.inn i hi) hq).2⟩
    have hxd : Boxed Wd (w.heap.size + 1) 23 (rowAt w.heap.size rs.length) := (hbd.block _ hlr).trans HT.out.x
    have hbwd : Below w.heap.size w Wd := HT.out.b.trans (hbd.mono hzr)
    obtain ⟨i0, hi0, hi1, hi2, hi3⟩ := info_parts info_int'
    have hmx : Try.prog.follows .mixedOrders = true := by kernel_rfl
    have HTN := Lib.hid (tuL_next (netOf rs) k)
    refine wpIn_rangeFunc_ownH (α := Fin rs.length) rfl (by omega) (gf := 71) (lb := #[pt (wr.heap.size + 1), pt (wr.heap.size + 1 + 1)]) rfl trivial (enters_of Try.func71 (by kernel_rfl) rfl)
      (encs := fun x => #[iv x.val]) (Kp := Kps Wd.heap.size (fun q => w.heap.size ≤ q ∧ ¬ (q = wr.heap.size ∨ q = wr.heap.size + 1 ∨ q = wr.heap.size + 1 + 1))) (S := fun ys => ys.map (·.val) = wy (netOf rs) k) (Sp := fun _ => True) (N := (wy (netOf rs) k).length) (w0 := Wd)
      ?seq Kps.trans ?kb (Below.refl _ _) (fun _ => rfl)
      (fun pre V => ORp w.heap.size (w.heap.size + 2) (fun q => q < wr.heap.size ∨ Wd.heap.size ≤ q) V (rowAt w.heap.size rs.length) (tuL (netOf rs) k (pre.map (·.val))) ∧ Boxed V (w.heap.size + 1) 23 (rowAt w.heap.size rs.length) ∧ Boxed V wr.heap.size 3 (iv k) ∧ Below w.heap.size w V ∧ KeepsFrom w.heap.size Wd V) (fun _ _ _ => False)
      ?own (fun _ _ _ _ _ hs _ _ => hs) ⟨hrd, hxd, hx2, hbwd, KeepsFrom.refl _ _⟩ (fun x a' _ => TB w.heap.size wr.heap.size x.val a') (fun _ _ _ _ _ _ hs _ _ => hs) ?assign ?body ?done ?stop
    case seq =>
      exact ways_seq HN.out HRW.out 7 (by omega) (wr.heap.size + 1) k hlt hbwd Wd.heap.size _ (fun q hq => hq.1) hx0 hx1 (by omega) (fun h => h.2 (.inr (.inl rfl))) (by omega)
    case kb => exact Kps.put (Nat.le_refl _)
    case own => exact OwnFrom.and ((ORp.own _ _ _ _ (fun pre : List (Fin rs.length) => tuL (netOf rs) k (pre.map (·.val)))).from _) (OwnFrom.and ((boxed_own _ _ (fun _ => _)).from _) (OwnFrom.and ((boxed_own _ _ (fun _ => _)).from _) (OwnFrom.and (ownFrom_below (Nat.le_refl _) (by omega)) (ownFrom_keepsFrom (Nat.le_refl _)))))
    case assign =>
      rintro lp pre x V K hi hK
      gi_wp2
      exact hK _ _ (KeepsFrom.refl _ _) (Kps.refl _ _ _) hi ⟨rfl, rfl, rfl, rfl, rfl⟩
    case body =>
      rintro lp pre x ⟨tm, df⟩ V _ _ ⟨hr, hx, hxb, hbl, hkf⟩ hfx hlen
      obtain ⟨y0, y1, y2, y3, y4, y5, y6, y7, y8, y9, y10, y11, y12, y13, y14, y15, y16, y17, y18, y19, y20, y21, y22, y23, y24, y25, y26, y27, y28, y29, y30, y31, y32, y33, y34, y35, y36, y37, y38, y39, y40, y41, y42, y43, y44, rfl⟩ := arr45 hfx.z
      obtain rfl : y3 = _ := hfx.s3
      obtain rfl : y4 = _ := hfx.s4
      obtain rfl : y5 = _ := hfx.s5
      obtain rfl : df = _ := hfx.d
      have hxl := x.isLt
      have cb := hx.cell
      have cbx := hxb.cell
      obtain ⟨vs, hv, hpq⟩ := hr
      have htl : (tuL (netOf rs) k (pre.map (·.val))).length = rs.length := by rw [tuL_len, hnl]
      have hout : V.ownsRow w.heap.size 26 1 (rowAt w.heap.size rs.length) rs.length vs := by have h := hv.out; rw [htl] at h; exact h
      have hvl : x.val < vs.length := by rw [hv.len, htl]; exact hxl
      have cx := (hout.cellAt x.val (by omega)).trans (by rw [List.getElem?_eq_getElem hvl, ← getElem!_pos vs x.val hvl])
      have hoi := hv.inn x.val (by omega)
      obtain ⟨va, vc, hva⟩ := own_slice hoi
      have hty : ∀ q, vs[x.val]!.ownBlock = some q → q ≠ w.heap.size := fun q hq e => own_types hoi hout (by decide) hq (by rw [e]; rfl)
      rw [hva] at cx
      have hbl0 := hx.lt
      have hbl1 := hxb.lt
      have hgl := (own_block hout (g := w.heap.size) rfl).2
      have hk2 : (0 : Int) ≤ (x.val : Int) := Int.natCast_nonneg _
      have hk3 : (x.val : Int) < (rs.length : Int) := by omega
      have hll : ((tuL (netOf rs) k (pre.map (·.val)))[x.val]!).length ≤ k + 1 := by
        rw [tuL_at _ (by rw [hnl]; exact hxl), List.length_append]
        have := toL_len (netOf rs) k x.val
        split <;> simp <;> omega
      have HY := fun h => Lib.hid (tuL_yes (n := netOf rs) (k := k) (i := x.val) (ws := pre.map (·.val)) (by rw [hnl]; exact hxl) h)
      have HNO := fun h => Lib.hid (tuL_no (n := netOf rs) (k := k) (i := x.val) (ws := pre.map (·.val)) (by rw [hnl]; exact hxl) h)
      have HPM : Hid ((pre ++ [x]).map (·.val) = pre.map (·.val) ++ [x.val]) := Lib.hid (by simp)
      generalize tuL (netOf rs) k (pre.map (·.val)) = tl at *
      generalize hlr : tl[x.val]! = lr at *
      rw [hva] at hoi
      have HALL := Lib.hid (show ORv w.heap.size (w.heap.size + 2) V (rowAt w.heap.size rs.length) vs tl ∧ (∀ i : Nat, i < tl.length → ∀ q, vs[i]!.ownBlock = some q → q < wr.heap.size ∨ Wd.heap.size ≤ q) ∧ Boxed V (w.heap.size + 1) 23 (rowAt w.heap.size rs.length) ∧ Boxed V wr.heap.size 3 (iv k) ∧ Below w.heap.size w V ∧ KeepsFrom w.heap.size Wd V from ⟨hv, hpq, hx, hxb, hbl, hkf⟩)
      have HOI := Lib.hid hoi
      have HOUT := Lib.hid hout
      have HVA := Lib.hid hva
      have HTY := Lib.hid hty
      clear hv hpq hx hxb hbl hkf hfx hlen hoi hout hva hty
      gi_wp2
      refine wpIn_mono (cond_region lp _ V w.heap.size wr.heap.size x.val k vc va lr cbx HOI.out (by omega)) ?_
      rintro e ⟨tm, df⟩ W' hp
      cases e with
      | normal =>
        obtain ⟨rfl, hc⟩ := hp
        have hbU : Below V.heap.size V V.drew := below_draws (Below.refl _ _) 1
        cases hlb : lastB lr k with
        | true =>
          rw [hlb] at hc
          obtain ⟨z0, z1, z2, z3, z4, z5, z6, z7, z8, z9, z10, z11, z12, z13, z14, z15, z16, z17, z18, z19, z20, z21, z22, z23, z24, z25, z26, z27, z28, z29, z30, z31, z32, z33, z34, z35, z36, z37, z38, z39, z40, z41, z42, z43, z44, rfl⟩ := arr45 hc.z
          obtain rfl : z3 = _ := hc.s3
          obtain rfl : z4 = _ := hc.s4
          obtain rfl : z5 = _ := hc.s5
          obtain rfl : z6 = _ := hc.s6
          obtain rfl : z35 = _ := hc.s35
          obtain rfl : df = _ := hc.d
          have H1 := HY hlb
          clear HY HNO hc
          gi_wp2
          obtain ⟨hv, hpq, hx, hxb, hbl, hkf⟩ := HALL.out
          refine ⟨(KeepsOthers.drew V).from _, fun q _ _ => rfl, ?_, hx, hxb, hbl.trans (hbU.mono hbl.size), hkf.trans ((KeepsOthers.drew V).from _)⟩
          rw [HPM.out, H1.out]
          exact ⟨vs, hv.keep (fun q _ => rfl), hpq⟩
        | false =>
          rw [hlb] at hc
          obtain ⟨z0, z1, z2, z3, z4, z5, z6, z7, z8, z9, z10, z11, z12, z13, z14, z15, z16, z17, z18, z19, z20, z21, z22, z23, z24, z25, z26, z27, z28, z29, z30, z31, z32, z33, z34, z35, z36, z37, z38, z39, z40, z41, z42, z43, z44, rfl⟩ := arr45 hc.z
          obtain rfl : z3 = _ := hc.s3
          obtain rfl : z4 = _ := hc.s4
          obtain rfl : z5 = _ := hc.s5
          obtain rfl : z6 = _ := hc.s6
          obtain rfl : z35 = _ := hc.s35
          obtain rfl : df = _ := hc.d
          have H1 := HNO hlb
          clear HY HNO hc
          gi_wp2
          refine wpIn_mono (app_region lp _ V.drew w.heap.size wr.heap.size x.val k vc rs.length rs.length va lr vs cb cbx hxl hbl0 HOI.out.drew (by omega) HOUT.out.drew cx) ?_
          rintro e a' W' hp
          cases e with
          | normal =>
            obtain ⟨v', W1, h1, h2, h3, rfl⟩ := hp
            gi_wp2
            obtain ⟨hv, hpq, hx, hxb, hbl, hkf⟩ := HALL.out
            have hba : Below V.heap.size V (V.drew.alloc (.cells #[iv k] 3)).drew := below_draws ((below_draws (Below.refl V.heap.size V) 1).alloc (Nat.le_refl _) _) 1
            have hsz : (V.drew.alloc (.cells #[iv k] 3)).drew.heap.size = V.heap.size + 1 := World.size_alloc V.drew _
            have hzg := h2.size
            have hzk := hkf.size
            have hvd : V.drew.heap.size = V.heap.size := rfl
            have hoi := HOI.out
            have hxt : x.val < tl.length := by omega
            have hob : ∀ q, (Value.slice va lr.length vc).ownBlock = some q → w.heap.size + 2 ≤ q ∧ q < V.heap.size ∧ (q < wr.heap.size ∨ Wd.heap.size ≤ q) := fun q hq => ⟨(own_block hoi hq).1, (own_block hoi hq).2, hpq x.val hxt q (by rw [HVA.out]; exact hq)⟩
            have hblk : ∀ q, q < V.heap.size → q ≠ w.heap.size → (Value.slice va lr.length vc).ownBlock ≠ some q → (W1.setCell ⟨w.heap.size, x.val, none⟩ v').heap[q]? = V.heap[q]? := fun q hq hne ho => (blk_other hne).trans ((h2.block q (by omega) (fun e => ho e.symm)).trans (hba.block q hq))
            have hORa := hv.keep (W' := (V.drew.alloc (.cells #[iv k] 3)).drew) (fun q hq => hba.block q (by
              rcases hq with hq | ⟨i, hi, hq⟩
              · exact (own_block hv.out hq).2
              · exact (own_block (hv.inn i hi) hq).2))
            have hput := hORa.put (p := x.val) (a := k) (v' := v') (W1 := W1) hxt htl.symm (by rw [hlr]; exact h1) (by rw [HVA.out]; exact h2) (by
              rw [HVA.out]
              exact h3.imp (fun h => h) (fun h => ⟨_, h, by omega⟩))
            rw [hlr] at hput
            have hvl2 : vs.length = tl.length := hv.len
            have hko : KeepsOthers V (W1.setCell ⟨w.heap.size, x.val, none⟩ v') := (((KeepsOthers.drew V).trans (KeepsOthers.alloc V.drew _)).trans (KeepsOthers.drew _)).trans ((KeepsOthers.of_grownBy h2 (fun j o hj ho => by
              rcases hoi.2 with ⟨e, _⟩ | ⟨g', cap, cur, e, _, hg', _⟩
              · rw [e] at hj; cases hj
              · rw [e] at hj
                simp only [Value.ownBlock, Option.some.injEq] at hj
                subst hj
                rw [hba.block g' (blk_lt hg'), hg'] at ho; cases ho; rfl)).trans (KeepsOthers.setCell _ _ _))
            refine ⟨hko.from _, fun q hq hM => hblk q (by omega) (fun e => hM ⟨by omega, by omega⟩) (fun e => by have := hob q e; exact hM ⟨by omega, by omega⟩), ?_, ?_, ?_, ?_, hkf.trans (hko.from _)⟩
            · rw [HPM.out, H1.out]
              refine ⟨_, hput, fun i hi q hq => ?_⟩
              rw [List.length_set] at hi
              rw [set_get (by omega)] at hq
              by_cases e : i = x.val
              · rw [if_pos e] at hq
                rcases h3 with h | h
                · exact (hob q (h.symm.trans hq)).2.2
                · rw [h] at hq
                  simp only [Option.some.injEq] at hq
                  right; omega
              · rw [if_neg e] at hq
                exact hpq i hi q hq
            · exact (hblk _ hbl0 (by omega) (fun e => by have := hob _ e; omega)).trans hx
            · exact (hblk _ hbl1 (by omega) (fun e => by have := hob _ e; omega)).trans hxb
            · exact hbl.trans ⟨h2.os, h2.tape, h2.output, by rw [World.size_setCell]; omega, fun q hq => hblk q (by omega) (by omega) (fun e => by have := hob _ e; omega)⟩
          | exit id => exact hp.elim
          | goto t => exact hp.elim
          | ret => exact hp.elim
          | panic ch => exact hp.elim
          | outgrown => exact hp.elim
      | exit id => exact hp.elim
      | goto t => exact hp.elim
      | ret => exact hp.elim
      | panic ch => exact hp.elim
      | outgrown => exact hp.elim
    case done =>
      rintro D ys V hD hys ⟨hr, hx, hxb, hbl, hkf⟩ hK
      rw [hys, HTN.out] at hr
      have hmk := hmd.cons (by omega) (by omega) hkf hK
      have HR := Lib.hid hr
      clear hr
      gi_wp2
      refine ⟨⟨k + 1, D :: ds, hlt, ⟨rfl, rfl, rfl, rfl, ?_, rfl⟩, ⟨⟨_, HR.out.choose_spec.1⟩, hx, hbl, hmk⟩⟩, ?_⟩
      · show Value.int .i64 ((k : Int) + 1) = _; go_num
      · simp [intOf]; omega
    case stop =>
      rintro D c' pre V _ _ h _
      exact h.elim
  · obtain rfl : k = rs.length := by omega
    gi_wp2
    have htn : tuL (netOf rs) rs.length [] = turnL (netOf rs) := by rw [← tuL_all, hnl]
    exact leave_marks (J := fun (_ : Unit) V => ORows w.heap.size (w.heap.size + 2) V (rowAt w.heap.size rs.length) (tuL (netOf rs) rs.length []) ∧ Below w.heap.size w V) (OwnFrom.and ((ORows.own _ _ _ (fun _ => _)).from _) (ownFrom_below (Nat.le_refl _) (Nat.le_refl _))) ()
      (fun V h => ⟨_, results_tmp rfl _ _ _, rfl, by rw [← htn]; exact h.1, h.2⟩) ds wr HT.out.m.n HT.out.m.d ⟨HT.out.r, HT.out.b⟩
end Go.Proofs.Ytaagpnepkjkfoaa.R6
