/-
  Marks of loops that have ended; contract of waits.
-/
import Derived.Test.YtaagpnepkjkfoaaRiW
namespace Go.Proofs.Ytaagpnepkjkfoaa.R6
open Go.RowKit Go.Shelf Go.Proofs.Ytaagpnepkjkfoaa.B
attribute [local go_sem] Oper.semAt_some

theorem arr26 {t : Array Value} (h : t.size = 26) : ∃ x0 x1 x2 x3 x4 x5 x6 x7 x8 x9 x10 x11 x12 x13 x14 x15 x16 x17 x18 x19 x20 x21 x22 x23 x24 x25, t = List.toArray (x0 :: x1 :: x2 :: x3 :: x4 :: x5 :: x6 :: x7 :: x8 :: x9 :: x10 :: x11 :: x12 :: x13 :: x14 :: x15 :: x16 :: x17 :: x18 :: x19 :: x20 :: x21 :: x22 :: x23 :: x24 :: x25 :: []) := by
  obtain ⟨l⟩ := t
  match l, h with
  | x0 :: x1 :: x2 :: x3 :: x4 :: x5 :: x6 :: x7 :: x8 :: x9 :: x10 :: x11 :: x12 :: x13 :: x14 :: x15 :: x16 :: x17 :: x18 :: x19 :: x20 :: x21 :: x22 :: x23 :: x24 :: x25 :: [], _ => exact ⟨x0, x1, x2, x3, x4, x5, x6, x7, x8, x9, x10, x11, x12, x13, x14, x15, x16, x17, x18, x19, x20, x21, x22, x23, x24, x25, rfl⟩
/-- The marks of loops that have ended. -/
def mks (ds : List Nat) : List Deferred := ds.map fun D => { target := .collected D, args := #[] }
theorem leave_marks {β : Type} {n : Nat} {P : Program} {fn : Func} {tmps : Array Value} {R : Ending → World → Prop} {B : Nat} {J : β → World → Prop} (hJ : OwnFrom B J) (s : β) (hr : ∀ W, J s W → ∃ v, (results fn tmps).run P W = .ok v W ∧ R (.returned v) W) :
    ∀ (ds : List Nat) (W : World), ds.Nodup → (∀ D ∈ ds, B ≤ D ∧ W.heap[D]? = some (.deferred (some []))) → J s W → LeavesInM Fence.wide n P fn tmps R (mks ds) .returning W
  | [], W, _, _, h => hr W h
  | D :: ds, W, hn, hd, h => by
    obtain ⟨h1, h2⟩ := List.nodup_cons.1 hn
    obtain ⟨d1, d2⟩ := hd D (List.mem_cons_self ..)
    refine ⟨by simp, .inl ⟨D, _, rfl, run_takeDeferred d2, leave_marks hJ s hr ds _ h2 (fun D' h' => ?_) (hJ.putObj _ h d1 d2 rfl)⟩⟩
    obtain ⟨e1, e2⟩ := hd D' (List.mem_cons_of_mem _ h')
    exact ⟨e1, (World.putObj_heap_other (fun e => h1 (by rw [← e]; exact h'))).trans e2⟩
/-- The marks' blocks. -/
structure Mk (B : Nat) (ds : List Nat) (W : World) : Prop where
  d : ∀ D ∈ ds, B ≤ D ∧ W.heap[D]? = some (.deferred (some []))
  n : ds.Nodup
theorem Mk.keeps {B : Nat} {ds : List Nat} {W W' : World} (h : Mk B ds W) (hk : KeepsFrom B W W') : Mk B ds W' := ⟨fun D hD => ⟨(h.d D hD).1, hk.same D _ (h.d D hD).1 (h.d D hD).2 rfl⟩, h.n⟩
theorem Mk.alloc {B : Nat} {ds : List Nat} {W : World} (h : Mk B ds W) (o : Obj) : Mk B ds (W.alloc o) := h.keeps ((KeepsOthers.alloc W o).from B)
theorem Mk.cons {B D : Nat} {ds : List Nat} {W W' : World} (h : Mk B ds W) (hD : W.heap.size ≤ D) (hB : B ≤ W.heap.size) (hk : KeepsFrom B W W') (hd : W'.heap[D]? = some (.deferred (some []))) : Mk B (D :: ds) W' := by
  refine ⟨fun D' hD' => ?_, List.nodup_cons.2 ⟨fun hm => ?_, h.n⟩⟩
  · rcases List.mem_cons.1 hD' with rfl | hm
    · exact ⟨by omega, hd⟩
    · exact (h.keeps hk).d D' hm
  · have := (Array.getElem?_eq_some_iff.1 (h.d D hm).2).1; omega

/-- A box, and the row of ints that it holds, at the head of one block for good. -/
def RowBox (g b N : Nat) (l : List Int) (W : World) : Prop := ∃ v, Boxed W b 26 v ∧ W.ownsRow g 3 1 v N (l.map (Value.int .i64)) ∧ v = rowAt g N
theorem rowBox_own {β : Type} (g b N : Nat) (f : β → List Int) : Own (fun s W => RowBox g b N (f s) W) := holdsRow_own g b 26 3 1 (fun _ => N) (fun s => (f s).map (Value.int .i64)) (fun _ v => v = rowAt g N)
theorem RowBox.set {g b N : Nat} {l : List Int} {W : World} (h : RowBox g b N l W) (hb : b ≠ g) (k : Nat) (i : Int) : RowBox g b N (l.set k i) (W.setCell ⟨g, k, none⟩ (.int .i64 i)) := by
  obtain ⟨v, h1, h2, rfl⟩ := h
  have hst := (h2.stored k (.int .i64 i)).1
  rw [set_map] at hst
  exact ⟨_, (blk_other hb).trans h1, hst, rfl⟩
theorem RowBox.keep {g b N : Nat} {l : List Int} {W W' : World} (h : RowBox g b N l W) (hk : ∀ k, k = g ∨ k = b → W'.heap[k]? = W.heap[k]?) : RowBox g b N l W' := by
  obtain ⟨v, h1, h2, rfl⟩ := h
  exact ⟨_, (hk b (.inr rfl)).trans h1, own_keep h2 (fun k hg => hk k (.inl (by simp only [Value.ownBlock, Option.some.injEq] at hg; exact hg.symm))), rfl⟩
theorem RowBox.len {g b N : Nat} {l : List Int} {W : World} (h : RowBox g b N l W) : l.length = N := by obtain ⟨v, _, h2, _⟩ := h; have := h2.1; simpa using this
theorem RowBox.box {g b N : Nat} {l : List Int} {W : World} (h : RowBox g b N l W) : W.cell? ⟨b, 0, none⟩ = some (rowAt g N) := by obtain ⟨v, h1, _, rfl⟩ := h; exact cell_blk (i := 0) h1 rfl
theorem RowBox.lt {g b N : Nat} {l : List Int} {W : World} (h : RowBox g b N l W) : g < W.heap.size ∧ b < W.heap.size := by obtain ⟨v, h1, h2, rfl⟩ := h; exact ⟨(own_block h2 rfl).2, h1.lt⟩
theorem RowBox.cell {g b N : Nat} {l : List Int} {W : World} (h : RowBox g b N l W) {k : Nat} (hk : k < N) : W.cell? ⟨g, k, none⟩ = some (.int .i64 l[k]!) ∧ W.frozen? ⟨g, k, none⟩ = false := by
  have hl := h.len
  obtain ⟨v, _, h2, rfl⟩ := h
  exact ⟨(h2.cellAt k (by omega)).trans (map_get _ (by omega)), h2.frozenAt k⟩
theorem addL_snoc (d : Int) (ws : List Nat) (t : Nat) (w : List Int) : addL d (ws ++ [t]) w = (addL d ws w).set t ((addL d ws w)[t]! + d) := by unfold addL; rw [List.foldl_append]; rfl

theorem wy_len {rs : List RW} (hrow : ∀ r ∈ rs, r.l.length ≤ 100000) (a : Nat) : (wy (netOf rs) a).length ≤ 100000 := by
  have h1 : (wy (netOf rs) a).length ≤ (netOf rs)[a]!.length := List.length_filterMap_le _ _
  rw [net_at] at h1
  by_cases h : a < rs.length
  · exact Nat.le_trans h1 (hrow _ (Go.Proofs.Ytaagpnepkjkfoaa.B.mem_at h))
  · rw [getElem!_neg rs a h] at h1
    exact Nat.le_trans h1 (Nat.zero_le _)
theorem count_le {rs : List RW} (hrow : ∀ r ∈ rs, r.l.length ≤ 100000) (x : Nat) : ∀ k : Nat, 0 ≤ (countL (netOf rs) k)[x]! ∧ (countL (netOf rs) k)[x]! ≤ k * 100000
  | 0 => by
    show 0 ≤ (List.replicate (netOf rs).length (0 : Int))[x]! ∧ (List.replicate (netOf rs).length (0 : Int))[x]! ≤ _
    by_cases h : x < (netOf rs).length
    · rw [getElem!_pos _ x (by simpa using h)]; simp
    · rw [getElem!_neg _ x (by simpa using h)]; exact ⟨Int.le_refl _, by show (0 : Int) ≤ _; omega⟩
  | k + 1 => by
    have ih := count_le hrow x k
    rw [count_next, addL_at 1 _ _ x (fun t ht => by rw [count_len]; exact wy_lt ht)]
    have h1 := wy_len hrow k
    have h2 : (wy (netOf rs) k).count x ≤ (wy (netOf rs) k).length := List.count_le_length
    omega
/-- The frame of waits at the head of its loop; in a round of its inner one. -/
structure WF (g N k : Nat) (v : Value) (ds : List Nat) (a : Act) : Prop where
  z : a.tmps.size = 26
  s0 : a.tmps.getD 0 undef = v
  s3 : a.tmps.getD 3 undef = pt (g + 1)
  s10 : a.tmps.getD 10 undef = .int .i64 N
  s11 : a.tmps.getD 11 undef = .int .i64 k
  d : a.defers = mks ds
structure WB (g : Nat) (x : Nat) (a : Act) : Prop where
  z : a.tmps.size = 26
  s3 : a.tmps.getD 3 undef = pt (g + 1)
  s5 : a.tmps.getD 5 undef = iv x
  d : a.defers = []
/-- Between two rounds. -/
structure WI (w : World) (N : Nat) (l : List Int) (ds : List Nat) (W : World) : Prop where
  r : RowBox w.heap.size (w.heap.size + 1) N l W
  b : Below w.heap.size w W
  m : Mk w.heap.size ds W

set_option maxRecDepth 100000 in
set_option maxHeartbeats 8000000 in
theorem waits_any (w : World) (A : Option Addr) (c : Nat) (rs : List RW) (hn : NetIn w A rs) (hN : rs.length ≤ 900) (hrow : ∀ r ∈ rs, r.l.length ≤ 100000) :
    Calls Try.prog 41 #[.slice A rs.length c] w fun e w' => e = .returned (rowAt w.heap.size rs.length) ∧ w'.ownsRow w.heap.size 3 1 (rowAt w.heap.size rs.length) rs.length ((countL (netOf rs) rs.length).map (Value.int .i64)) ∧ Below w.heap.size w w' := by
  refine (callsIn_wide (n := 8)).1 ?_
  have hb := make_ints rs.length (by omega)
  obtain ⟨cs, hcs⟩ : ∃ cs, cs = ((List.replicate rs.length (0 : Int)).map (Value.int .i64)).toArray := ⟨_, rfl⟩
  rw [← hcs] at hb
  have hnl : (netOf rs).length = rs.length := net_len _
  refine callsIn_of_wp_marks Try.func41 rfl trivial ?_ rfl
  simp only [Try.ntmps41, List.size_toArray, List.length_cons, List.length_nil, Nat.reduceAdd, Nat.reduceSub, Array.replicate_succ, Array.replicate_zero, List.push_toArray, List.append_toArray, List.nil_append, List.cons_append]
  have HCS := Lib.hid hcs
  clear hcs
  gi_wp2
  have h0 : WI w rs.length (countL (netOf rs) 0) [] ((w.alloc (.cells cs 3)).alloc (.cells #[rowAt w.heap.size rs.length] 26)) := by
    refine ⟨⟨_, ?_, own_all (Nat.le_refl _) ?_ (by simp [countL, hnl]) (by omega), rfl⟩, ((Below.refl _ w).alloc (Nat.le_refl _) _).alloc (by rw [World.size_alloc]; omega) _, ⟨fun D h => (by cases h), List.nodup_nil⟩⟩
    · have := heap_new (w.alloc (.cells cs 3)) (.cells #[rowAt w.heap.size rs.length] 26)
      rw [World.size_alloc] at this; exact this
    · refine (heap_old (by rw [World.size_alloc]; omega) (heap_new _ _)).trans ?_
      rw [HCS.out]; show _ = some (Obj.cells ((List.replicate (netOf rs).length (0 : Int)).map (Value.int .i64)).toArray _ _); rw [hnl]
  have H0 := Lib.hid h0
  have HN := Lib.hid hn
  have HRW := Lib.hid hrow
  clear h0 hb hn hrow HCS
  refine wpIn_loop (fun a wr => ∃ k ds, k ≤ rs.length ∧ WF w.heap.size rs.length k (.slice A rs.length c) ds a ∧ WI w rs.length (countL (netOf rs) k) ds wr) (fun a _ => rs.length - (intOf (a.tmps.getD 11 undef)).toNat) ⟨0, [], Nat.zero_le _, ⟨rfl, rfl, rfl, rfl, rfl, rfl⟩, H0.out⟩ ?_
  clear H0
  rintro ⟨tm, df⟩ wr ⟨k, ds, hk, hf, ht⟩
  obtain ⟨x0, x1, x2, x3, x4, x5, x6, x7, x8, x9, x10, x11, x12, x13, x14, x15, x16, x17, x18, x19, x20, x21, x22, x23, x24, x25, rfl⟩ := arr26 hf.z
  obtain rfl : x0 = _ := hf.s0
  obtain rfl : x3 = _ := hf.s3
  obtain rfl : x10 = _ := hf.s10
  obtain rfl : x11 = _ := hf.s11
  obtain rfl : df = _ := hf.d
  have HT := Lib.hid ht
  have hzr := ht.b.size
  have hlr := ht.r.lt
  clear hf ht
  by_cases hlt : k < rs.length
  · have hk0 : (0 : Int) ≤ (k : Int) := Int.natCast_nonneg _
    have hk1 : (k : Int) < (rs.length : Int) := by omega
    gi_wp2_with (refine ⟨trivial, ?_⟩; gi_at_call 43; refine (ways_any _ A rs.length c k wr).mono ?_; rintro e w' ⟨rfl, rfl⟩)
    obtain ⟨Wd, hWd⟩ : ∃ Wd, Wd = ((wr.alloc (.cells #[.slice A rs.length c] 23)).alloc (.cells #[iv k] 3)) := ⟨_, rfl⟩
    have hsd : Wd.heap.size = wr.heap.size + 2 := by rw [hWd, World.size_alloc, World.size_alloc]
    have hbd : Below wr.heap.size wr Wd := by rw [hWd]; exact ((Below.refl _ wr).alloc (Nat.le_refl _) _).alloc (by rw [World.size_alloc]; omega) _
    have hx0 : Wd.heap[wr.heap.size]? = some (.cells #[.slice A rs.length c] 23 (0, 0)) := by rw [hWd]; exact heap_old (by rw [World.size_alloc]; omega) (heap_new _ _)
    have hx1 : Wd.heap[wr.heap.size + 1]? = some (.cells #[iv k] 3 (0, 0)) := by
      rw [hWd]; have := heap_new (wr.alloc (.cells #[.slice A rs.length c] 23)) (.cells #[iv k] 3)
      rw [World.size_alloc] at this; exact this
    have hmd : Mk w.heap.size ds Wd := by rw [hWd]; exact (HT.out.m.alloc _).alloc _
    show Code.wpIn _ _ _ _ _ _ ((wr.alloc (.cells #[.slice A rs.length c] 23)).alloc (.cells #[iv k] 3))
    rw [← hWd]
    clear hWd
    have hkd : KeepsFrom w.heap.size wr Wd := ⟨hbd.size, fun q o _ ho _ => (hbd.block q (Array.getElem?_eq_some_iff.1 ho).1).trans ho⟩
    have hrd : RowBox w.heap.size (w.heap.size + 1) rs.length (countL (netOf rs) k) Wd := HT.out.r.keep (fun q hq => hbd.block q (by omega))
    have hbwd : Below w.heap.size w Wd := HT.out.b.trans (hbd.mono hzr)
    have HCL := Lib.hid (count_le HRW.out (rs := rs))
    have HCN := Lib.hid (count_next (netOf rs) k)
    have HWL := Lib.hid (wy_len HRW.out k)
    refine wpIn_rangeFunc_ownH (α := Fin rs.length) rfl (by omega) (gf := 71) (lb := #[pt wr.heap.size, pt (wr.heap.size + 1)]) rfl trivial (enters_of Try.func71 (by kernel_rfl) rfl)
      (encs := fun x => #[iv x.val]) (Kp := Kps Wd.heap.size (fun q => q = w.heap.size)) (S := fun ys => ys.map (·.val) = wy (netOf rs) k) (Sp := fun _ => True) (N := (wy (netOf rs) k).length) (w0 := Wd)
      ?seq Kps.trans ?kb (Below.refl _ _) (fun _ => rfl)
      (fun pre V => RowBox w.heap.size (w.heap.size + 1) rs.length (addL 1 (pre.map (·.val)) (countL (netOf rs) k)) V ∧ Below w.heap.size w V ∧ KeepsFrom w.heap.size Wd V) (fun _ _ _ => False)
      ?own (fun _ _ _ _ _ hs _ _ => hs) ⟨hrd, hbwd, KeepsFrom.refl _ _⟩ (fun x a' _ => WB w.heap.size x.val a') (fun _ _ _ _ _ _ hs _ _ => hs) ?assign ?body ?done ?stop
    case seq =>
      exact ways_seq HN.out HRW.out 7 (by omega) wr.heap.size k hlt hbwd Wd.heap.size (fun q => q = w.heap.size) (fun q hq => by omega) hx0 hx1 (by omega) (by omega) (by omega)
    case kb => exact Kps.put (Nat.le_refl _)
    case own => exact OwnFrom.and ((rowBox_own _ _ _ _).from _) (OwnFrom.and (ownFrom_below (Nat.le_refl _) (by omega)) (ownFrom_keepsFrom (Nat.le_refl _)))
    case assign =>
      rintro lp pre x V K hi hK
      gi_wp2
      exact hK _ _ (KeepsFrom.refl _ _) (Kps.refl _ _ _) hi ⟨rfl, rfl, rfl, rfl⟩
    case body =>
      rintro lp pre x ⟨tm, df⟩ V _ _ ⟨hr, hbl, hkf⟩ hx hlen
      obtain ⟨y0, y1, y2, y3, y4, y5, y6, y7, y8, y9, y10, y11, y12, y13, y14, y15, y16, y17, y18, y19, y20, y21, y22, y23, y24, y25, rfl⟩ := arr26 hx.z
      obtain rfl : y3 = _ := hx.s3
      obtain rfl : y5 = _ := hx.s5
      obtain rfl : df = _ := hx.d
      have hxl := x.isLt
      have cb := hr.box
      obtain ⟨cx, fx⟩ := hr.cell hxl
      have hll := hr.lt
      have hk2 : (0 : Int) ≤ (x.val : Int) := Int.natCast_nonneg _
      have hk3 : (x.val : Int) < (rs.length : Int) := by omega
      have hval := addL_at 1 (pre.map (·.val)) (countL (netOf rs) k) x.val (fun t ht => by
        obtain ⟨z, _, rfl⟩ := List.mem_map.1 ht
        rw [count_len, hnl]; exact z.isLt)
      have hcl := HCL.out x.val k
      have hct : (pre.map (·.val)).count x.val ≤ 100000 := by
        have h1 : (pre.map (fun y : Fin rs.length => y.val)).count x.val ≤ (pre.map (fun y : Fin rs.length => y.val)).length := List.count_le_length
        rw [List.length_map] at h1
        have := HWL.out
        omega
      have HS := Lib.hid (addL_snoc 1 (pre.map (·.val)) x.val (countL (netOf rs) k))
      have hset := fun i => Lib.hid (hr.set (by omega) x.val i)
      have hb0 : 0 ≤ (addL 1 (pre.map (·.val)) (countL (netOf rs) k))[x.val]! ∧ (addL 1 (pre.map (·.val)) (countL (netOf rs) k))[x.val]! ≤ 1000000000 := by rw [hval]; omega
      have HBL := Lib.hid hbl
      have HKF := Lib.hid hkf
      have hzV := hbl.size
      clear hval hcl hct hr hbl hkf hx hlen
      generalize (addL 1 (pre.map (·.val)) (countL (netOf rs) k))[x.val]! = z at *
      gi_wp2
      have he : Ext (fun q => q = w.heap.size) V (V.setCell ⟨w.heap.size, x.val, none⟩ (.int .i64 (z + 1))) := Ext.set (F := fun q => q = w.heap.size) V _ rfl
      have ho : KeepsOthers V (V.setCell ⟨w.heap.size, x.val, none⟩ (.int .i64 (z + 1))) := KeepsOthers.setCell _ _ _
      refine ⟨ho.from _, Kps.ext he HKF.out.size (fun _ _ h => h), ?_, he.below HBL.out (fun i hi => by omega) hzV, HKF.out.trans (ho.from _)⟩
      have h1 := (hset (z + 1)).out
      rw [← HS.out] at h1
      rw [List.map_append]
      exact h1
    case done =>
      rintro D ys V hD hys ⟨hr, hbl, hkf⟩ hK
      rw [hys, ← HCN.out] at hr
      have hmk := hmd.cons (by omega) (by omega) hkf hK
      gi_wp2
      refine ⟨⟨k + 1, D :: ds, hlt, ⟨rfl, rfl, rfl, rfl, ?_, rfl⟩, ⟨hr, hbl, hmk⟩⟩, ?_⟩
      · show Value.int .i64 ((k : Int) + 1) = _; go_num
      · simp [intOf]; omega
    case stop =>
      rintro D c' pre V _ _ h _
      exact h.elim
  · obtain rfl : k = rs.length := by omega
    have hbx := HT.out.r.box
    gi_wp2
    exact leave_marks (J := fun (_ : Unit) V => RowBox w.heap.size (w.heap.size + 1) rs.length (countL (netOf rs) rs.length) V ∧ Below w.heap.size w V) (OwnFrom.and ((rowBox_own _ _ _ (fun _ => _)).from _) (ownFrom_below (Nat.le_refl _) (Nat.le_refl _))) ()
      (fun V h => ⟨_, results_tmp rfl _ _ _, rfl, by obtain ⟨v, _, h2, rfl⟩ := h.1; exact h2, h.2⟩) ds wr HT.out.m.n HT.out.m.d ⟨HT.out.r, HT.out.b⟩
end Go.Proofs.Ytaagpnepkjkfoaa.R6
