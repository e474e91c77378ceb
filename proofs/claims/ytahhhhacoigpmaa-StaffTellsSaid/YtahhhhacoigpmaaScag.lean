/-
  Contracts of package staff: able, May. Contracts of package staff: May, Able, Away.
-/
import Derived.Test.YtahhhhacoigpmaaScaf
import Derived.Laws.MakeOwn
import Derived.Laws.EntriesVeiled
namespace Go.Proofs.Ytahhhhacoigpmaa.SF
open Go.RowKit Go.Shelf Go.Proofs.Ytahhhhacoigpmaa.B
attribute [local go_sem] Oper.semAt_some
/-- Who may, as it is gathered. -/
def setB (M : List Mb) (bs : List Bool) (x : Nat) : List Bool := bs.set x (!M[x]!.away)
def foldC (M : List Mb) (bs : List Bool) (c : List Nat) : List Bool := c.foldl (setB M) bs
def foldH (M : List Mb) (hs : List Nat) : List Bool := hs.foldl (fun bs (h : Nat) => foldC M bs (chain M (h : Int))) (List.replicate M.length false)
theorem foldC_snoc (M : List Mb) (bs : List Bool) (c : List Nat) (x : Nat) : foldC M bs (c ++ [x]) = (foldC M bs c).set x (!M[x]!.away) := by unfold foldC; rw [List.foldl_append]; rfl
theorem foldH_snoc (M : List Mb) (hs : List Nat) (x : Nat) : foldH M (hs ++ [x]) = foldC M (foldH M hs) (chain M (x : Int)) := by unfold foldH; rw [List.foldl_append]; rfl
theorem foldC_len (M : List Mb) : ∀ (c : List Nat) (bs : List Bool), (foldC M bs c).length = bs.length
  | [], _ => rfl
  | x :: r, bs => by
    show (foldC M (setB M bs x) r).length = _
    rw [foldC_len M r]; exact List.length_set
theorem foldH_len (M : List Mb) (hs : List Nat) : (foldH M hs).length = M.length := by
  have h : ∀ (hs : List Nat) (bs : List Bool), (hs.foldl (fun bs (h : Nat) => foldC M bs (chain M (h : Int))) bs).length = bs.length := by
    intro hs
    induction hs with
    | nil => intro bs; rfl
    | cons x r ih => intro bs; rw [List.foldl_cons, ih, foldC_len]
  unfold foldH
  rw [h, List.length_replicate]
theorem foldC_at (M : List Mb) (i : Nat) : ∀ (c : List Nat) (bs : List Bool), i < bs.length → (foldC M bs c)[i]? = if c.contains i then some (!M[i]!.away) else bs[i]?
  | [], bs, _ => by rfl
  | x :: r, bs, hi => by
    show (foldC M (setB M bs x) r)[i]? = _
    rw [foldC_at M i r _ (by unfold setB; rw [List.length_set]; exact hi), List.contains_cons]
    by_cases hx : i = x
    · subst hx
      rw [beq_self_eq_true, Bool.true_or, if_pos rfl]
      split
      · rfl
      · unfold setB; rw [List.getElem?_set_self hi]
    · rw [show (i == x) = false by simpa using hx, Bool.false_or]
      split
      · rfl
      · unfold setB; rw [List.getElem?_set_ne (Ne.symm hx)]
theorem foldG_at (M : List Mb) (i : Nat) : ∀ (hs : List Nat) (bs : List Bool) (b : Bool), bs[i]? = some b → (hs.foldl (fun bs (h : Nat) => foldC M bs (chain M (h : Int))) bs)[i]? = some (if hs.any (fun h => (chain M (h : Int)).contains i) then !M[i]!.away else b)
  | [], bs, b, h => by rw [List.foldl_nil, h]; rfl
  | x :: r, bs, b, h => by
    have hi : i < bs.length := (List.getElem?_eq_some_iff.1 h).1
    have h1 := foldC_at M i (chain M (x : Int)) bs hi
    rw [List.foldl_cons, List.any_cons]
    cases hc : (chain M (x : Int)).contains i with
    | true =>
      rw [hc, if_pos rfl] at h1
      rw [foldG_at M i r _ _ h1, Bool.true_or, if_pos rfl]
      split <;> rfl
    | false =>
      rw [hc, if_neg (by decide), h] at h1
      rw [foldG_at M i r _ _ h1, Bool.false_or]
theorem foldH_at (M : List Mb) {i : Nat} (hi : i < M.length) (hs : List Nat) : (foldH M hs)[i]? = some (hs.any (fun h => (chain M (h : Int)).contains i) && !M[i]!.away) := by
  unfold foldH
  rw [foldG_at M i hs _ false (by rw [List.getElem?_replicate, if_pos hi])]
  cases hs.any (fun h => (chain M (h : Int)).contains i) <;> rfl
theorem able_at (M : List Mb) (r : Key) {i : Nat} (hi : i < M.length) : (foldH M (hold M r))[i]? = some (ableB M r i) := foldH_at M hi _
theorem info_bo : (Try.prog.info? 4).map (fun i => (i.zero, i.size, i.bytes)) = some (some (.bool false), 1, 1) := by kernel_rfl
theorem made_bools (n : Nat) : madeCells #[Value.bool false] n = ((List.replicate n false).map Value.bool).toArray := by
  refine Array.ext (by simp [size_madeCells]) (fun i h1 h2 => ?_)
  simp [madeCells, Nat.mod_one]
theorem make_bools (n : Nat) (hn : n ≤ 100000) (W : World) : (Instr.makeSlice 75 (.int .i64 n) (.int .i64 n)).run Try.prog W = .ok (.slice (some ⟨W.heap.size, 0, none⟩) n n) (W.alloc (.cells ((List.replicate n false).map Value.bool).toArray 4)) := by
  obtain ⟨i0, hi0, hi1, hi2, hi3⟩ := info_parts info_bo
  have h := run_make (P := Try.prog) W 75 4 i0 _ Try.underlying75 hi0 hi1 .i64 .i64 n n (by omega) (by omega) (by rw [hi3]; omega) (by omega)
  rw [hi2, Nat.mul_one, Int.toNat_natCast] at h
  exact h.trans (by rw [← made_bools]; rfl)
abbrev rowAt (k n : Nat) : Value := .slice (some ⟨k, 0, none⟩) n n
theorem own_all {w : World} {B e g n : Nat} {xs : List Value} (hB : B ≤ g) (h : w.heap[g]? = some (.cells xs.toArray e (0, 0))) (hl : xs.length = n) (hm : n ≤ 100000) : w.ownsRow B e 1 (rowAt g n) n xs :=
  ⟨by omega, .inr ⟨g, n, _, rfl, hB, h, Nat.le_refl _, by unfold maxLen; omega, by simp [hl], by simp [← hl]⟩⟩
theorem map_get {α : Type} [Inhabited α] (f : α → Value) {l : List α} {i : Nat} (h : i < l.length) : (l.map f)[i]? = some (f l[i]!) := by
  rw [List.getElem?_map, List.getElem?_eq_getElem h, getElem!_pos l i h]; rfl
theorem own_kps {β : Type} {n₀ B : Nat} {Mu : Nat → Prop} {V : World} (hB : n₀ ≤ B) (hV : n₀ ≤ V.heap.size) : OwnFrom B (fun (_ : β) U => Kps n₀ Mu V U) := fun _ X _ _ hs hg hr =>
  ⟨Nat.le_trans hs.size hg.size, fun k hk hm => (hg.block k (by have := hs.size; omega) (fun e => by have := (hr k e.symm).1; omega)).trans (hs.block k hk hm)⟩
/-- What the loops of able keep: the row (B + 1), its box (B + 2), the staff's (B). -/
structure AI (w : World) (n₀ sb N : Nat) (bs : List Bool) (V : World) : Prop where
  r : V.ownsRow w.heap.size 4 1 (rowAt (w.heap.size + 1) N) N (bs.map Value.bool)
  m : Boxed V (w.heap.size + 2) 75 (rowAt (w.heap.size + 1) N)
  s : Boxed V w.heap.size 31 (pt sb)
  b : Below w.heap.size w V
  n : n₀ ≤ V.heap.size
theorem AI.own {β : Type} {w : World} {n₀ sb N : Nat} {B : Nat} (hB : w.heap.size ≤ B) (f : β → List Bool) : OwnFrom B (fun s V => AI w n₀ sb N (f s) V) := by
  have h1 : OwnFrom B (fun (s : β) V => V.ownsRow w.heap.size 4 1 (rowAt (w.heap.size + 1) N) N ((f s).map Value.bool) ∧ Boxed V (w.heap.size + 2) 75 (rowAt (w.heap.size + 1) N) ∧ Boxed V w.heap.size 31 (pt sb) ∧ Below w.heap.size w V ∧ n₀ ≤ V.heap.size) :=
    OwnFrom.and (fun s X Y row hs hg hr => (row_own (β := Unit) _ _ _ _ _ ((f s).map Value.bool)).from B () X Y row hs hg hr) (OwnFrom.and ((boxed_own (w.heap.size + 2) 75 (fun _ : β => rowAt (w.heap.size + 1) N)).from _) (OwnFrom.and ((boxed_own w.heap.size 31 (fun _ : β => pt sb)).from _) (OwnFrom.and (ownFrom_below (Nat.le_refl _) hB) own_size)))
  intro s X Y row hs hg hr
  obtain ⟨a, b, c, d, e⟩ := h1 s X Y row ⟨hs.r, hs.m, hs.s, hs.b, hs.n⟩ hg hr
  exact ⟨a, b, c, d, e⟩
theorem AI.keep {w : World} {n₀ sb N : Nat} {bs : List Bool} {V V' : World} (h : AI w n₀ sb N bs V) (hb : Below V.heap.size V V') : AI w n₀ sb N bs V' :=
  ⟨own_below h.r hb, (hb.block _ h.m.lt).trans h.m, (hb.block _ h.s.lt).trans h.s, h.b.trans (hb.mono h.b.size), Nat.le_trans h.n hb.size⟩
theorem AI.set {w : World} {n₀ sb N : Nat} {bs : List Bool} {V : World} (h : AI w n₀ sb N bs V) (x : Nat) (b : Bool) : AI w n₀ sb N (bs.set x b) (V.setCell ⟨w.heap.size + 1, x, none⟩ (.bool b)) := by
  refine ⟨?_, (blk_other (by omega)).trans h.m, (blk_other (by omega)).trans h.s, h.b.setCell (p := ⟨w.heap.size + 1, x, none⟩) (Nat.le_succ _) _, by rw [World.size_setCell]; exact h.n⟩
  have hst := (h.r.stored x (.bool b)).1
  rw [show (bs.map Value.bool).set x (.bool b) = (bs.set x b).map Value.bool by rw [List.map_set]] at hst
  exact hst
/-- The frames in a round of the outer loop, of the inner one. -/
structure AB (B x : Nat) (a : Act) : Prop where
  z : a.tmps.size = 35
  s2 : a.tmps.getD 2 undef = pt B
  s5 : a.tmps.getD 5 undef = pt (B + 2)
  s6 : a.tmps.getD 6 undef = iv x
  d : a.defers = []
structure AC (B x : Nat) (a : Act) : Prop where
  z : a.tmps.size = 35
  s2 : a.tmps.getD 2 undef = pt B
  s5 : a.tmps.getD 5 undef = pt (B + 2)
  s7 : a.tmps.getD 7 undef = iv x
  d : a.defers = []
theorem arr35 {t : Array Value} (h : t.size = 35) : ∃ x0 x1 x2 x3 x4 x5 x6 x7 x8 x9 x10 x11 x12 x13 x14 x15 x16 x17 x18 x19 x20 x21 x22 x23 x24 x25 x26 x27 x28 x29 x30 x31 x32 x33 x34, t = List.toArray (x0 :: x1 :: x2 :: x3 :: x4 :: x5 :: x6 :: x7 :: x8 :: x9 :: x10 :: x11 :: x12 :: x13 :: x14 :: x15 :: x16 :: x17 :: x18 :: x19 :: x20 :: x21 :: x22 :: x23 :: x24 :: x25 :: x26 :: x27 :: x28 :: x29 :: x30 :: x31 :: x32 :: x33 :: x34 :: []) := by
  obtain ⟨l⟩ := t
  match l, h with
  | x0 :: x1 :: x2 :: x3 :: x4 :: x5 :: x6 :: x7 :: x8 :: x9 :: x10 :: x11 :: x12 :: x13 :: x14 :: x15 :: x16 :: x17 :: x18 :: x19 :: x20 :: x21 :: x22 :: x23 :: x24 :: x25 :: x26 :: x27 :: x28 :: x29 :: x30 :: x31 :: x32 :: x33 :: x34 :: [], _ => exact ⟨x0, x1, x2, x3, x4, x5, x6, x7, x8, x9, x10, x11, x12, x13, x14, x15, x16, x17, x18, x19, x20, x21, x22, x23, x24, x25, x26, x27, x28, x29, x30, x31, x32, x33, x34, rfl⟩
set_option maxRecDepth 100000 in
set_option maxHeartbeats 8000000 in
theorem able_any (w : World) (sb : Nat) (A : SA) (M : List Mb) (h : StI w sb A M) (hok : OkM M) (r : ByteArray) :
    Calls Try.prog 36 #[pt sb, .string r] w fun e w' => e = .returned (rowAt (w.heap.size + 1) M.length) ∧ w'.ownsRow w.heap.size 4 1 (rowAt (w.heap.size + 1) M.length) M.length ((foldH M (hold M r.toList)).map Value.bool) ∧ Below w.heap.size w w' := by
  obtain ⟨ma, mc, pb⟩ := A
  refine (callsIn_wide (n := 12)).1 ?_
  have hN := hok.few
  have hro := hok.roles
  have HOK := Lib.hid hok
  have hmk := make_bools M.length (by omega)
  obtain ⟨cs, hcs⟩ : ∃ cs, cs = ((List.replicate M.length false).map Value.bool).toArray := ⟨_, rfl⟩
  rw [← hcs] at hmk
  have HCS := Lib.hid hcs
  have hc0 : (w.alloc (.cells #[pt sb] 31)).cell? ⟨sb, 0, none⟩ = some (.slice ma M.length mc) := (World.cell?_alloc_lt _ _ ⟨sb, 0, none⟩ h.lt).trans h.c0
  have hsl := h.lt
  have HS := Lib.hid h
  clear h hok hcs
  refine callsIn_of_wp_marks Try.func36 rfl trivial ?_ rfl
  simp only [Try.ntmps36, List.size_toArray, List.length_cons, List.length_nil, Nat.reduceAdd, Nat.reduceSub, Array.replicate_succ, Array.replicate_zero, List.push_toArray, List.append_toArray, List.nil_append, List.cons_append]
  gi_wp2_with (refine ⟨trivial, ?_⟩; gi_at_call 33; refine (holders_mk _ sb r _).mono ?_; rintro e w' ⟨rfl, rfl⟩)
  obtain ⟨W5, hW5⟩ : ∃ W5, W5 = (((((w.alloc (.cells #[pt sb] 31)).alloc (.cells cs 4)).alloc (.cells #[rowAt (w.heap.size + 1) M.length] 75)).alloc (.cells #[pt sb] 31)).alloc (.cells #[.string r] 9)) := ⟨_, rfl⟩
  have hal : W5 = [Obj.cells #[pt sb] 31, .cells cs 4, .cells #[rowAt (w.heap.size + 1) M.length] 75, .cells #[pt sb] 31, .cells #[.string r] 9].foldl World.alloc w := hW5
  have hs5 : W5.heap.size = w.heap.size + 5 := by rw [hal, allocs_size]; rfl
  have hb5 : Below w.heap.size w W5 := by rw [hal]; exact allocs_below _ _ (Nat.le_refl _)
  have a0 : W5.heap[w.heap.size + 0]? = some (.cells #[pt sb] 31 (0, 0)) := by rw [hal]; exact allocs_at _ w 0 (by simp)
  have a1 : W5.heap[w.heap.size + 1]? = some (.cells cs 4 (0, 0)) := by rw [hal]; exact allocs_at _ w 1 (by simp)
  have a2 : W5.heap[w.heap.size + 2]? = some (.cells #[rowAt (w.heap.size + 1) M.length] 75 (0, 0)) := by rw [hal]; exact allocs_at _ w 2 (by simp)
  have a3 : W5.heap[w.heap.size + 3]? = some (.cells #[pt sb] 31 (0, 0)) := by rw [hal]; exact allocs_at _ w 3 (by simp)
  have a4 : W5.heap[w.heap.size + 4]? = some (.cells #[.string r] 9 (0, 0)) := by rw [hal]; exact allocs_at _ w 4 (by simp)
  show Code.wpIn _ _ _ _ _ _ (((((w.alloc (.cells #[pt sb] 31)).alloc (.cells cs 4)).alloc (.cells #[rowAt (w.heap.size + 1) M.length] 75)).alloc (.cells #[pt sb] 31)).alloc (.cells #[.string r] 9))
  rw [← hW5]
  clear hW5 hal hmk hc0
  have h0 : AI w W5.heap.size sb M.length (foldH M []) W5 := by
    refine ⟨own_all (Nat.le_succ _) (by rw [a1, HCS.out]; rfl) (by rw [List.length_map, foldH_len]) (by omega), a2, a0, hb5, Nat.le_refl _⟩
  clear HCS
  refine wpIn_rangeFunc_ownH (α := Fin M.length) rfl (by omega) (gf := 48) (lb := #[pt (w.heap.size + 3), pt (w.heap.size + 4)]) rfl trivial (enters_of Try.func48 (by kernel_rfl) rfl)
    (encs := fun x => #[iv x.val]) (Kp := Kps W5.heap.size (fun q => q = w.heap.size + 1)) (S := fun ys => vals ys = hold M r.toList) (Sp := fun ys => vals ys <+: hold M r.toList) (N := (hold M r.toList).length) (w0 := W5)
    ?seq Kps.trans ?kb (Below.refl _ _) (fun _ => rfl)
    (fun pre V => AI w W5.heap.size sb M.length (foldH M (vals pre)) V) (fun _ _ _ => False)
    ?own (fun _ _ _ _ _ hs _ _ => hs) h0 (fun x a' _ => AB w.heap.size x.val a') (fun _ _ _ _ _ _ hs _ _ => hs) ?assign ?body ?done ?stop
  case seq => exact holders_seq HS.out hN hro r 11 (by omega) (w.heap.size + 3) hb5 W5.heap.size (fun q => q = w.heap.size + 1) (fun q hq => by omega) a3 a4 (by omega) (by omega) (by omega) (Nat.le_refl _)
  case kb => exact Kps.put (Nat.le_refl _)
  case own => exact AI.own (by omega) (fun pre : List (Fin M.length) => foldH M (vals pre))
  case assign =>
    rintro lp pre x V K hi hK
    gi_wp2
    exact hK _ _ (KeepsFrom.refl _ _) (Kps.refl _ _ _) hi ⟨rfl, rfl, rfl, rfl, rfl⟩
  case body =>
    rintro lp pre x ⟨tm, df⟩ V hlp ⟨rl, hrl⟩ hi hx hlen
    obtain ⟨y0, y1, y2, y3, y4, y5, y6, y7, y8, y9, y10, y11, y12, y13, y14, y15, y16, y17, y18, y19, y20, y21, y22, y23, y24, y25, y26, y27, y28, y29, y30, y31, y32, y33, y34, rfl⟩ := arr35 hx.z
    obtain rfl : y2 = _ := hx.s2
    obtain rfl : y5 = _ := hx.s5
    obtain rfl : y6 = _ := hx.s6
    obtain rfl : df = _ := hx.d
    have hxl := x.isLt
    have hpe : foldH M (vals (pre ++ [x])) = foldC M (foldH M (vals pre)) (chain M (x.val : Int)) := by rw [← foldH_snoc]; simp
    have HPE := Lib.hid hpe
    have hcl := chain_len M (x.val : Int)
    have HCH := Lib.hid (chR HOK.out (x.val : Int) (by omega) (by omega))
    have cb2 := hi.s.cell
    have hBl := hi.s.lt
    have h1n : 1 ≤ 12 - 1 - 1 := by omega
    clear hx hlen hpe
    gi_wp2
    refine ⟨trivial, ?_⟩
    refine (CallsIn.inRound lp (chain_mk _ sb (x.val : Int) V)).mono ?_
    rintro e w' ⟨rfl, rfl⟩
    gi_wp2
    obtain ⟨Vd, hVd⟩ : ∃ Vd, Vd = ((V.alloc (.cells #[pt sb] 31)).alloc (.cells #[.int .i64 (x.val : Int)] 3)) := ⟨_, rfl⟩
    have hald : Vd = [Obj.cells #[pt sb] 31, .cells #[.int .i64 (x.val : Int)] 3].foldl World.alloc V := hVd
    have hsd : Vd.heap.size = V.heap.size + 2 := by rw [hald, allocs_size]; rfl
    have hbd : Below V.heap.size V Vd := by rw [hald]; exact allocs_below _ _ (Nat.le_refl _)
    have hx0 : Vd.heap[V.heap.size]? = some (.cells #[pt sb] 31 (0, 0)) := by rw [hald]; exact allocs_at _ V 0 (by simp)
    have hx1 : Vd.heap[V.heap.size + 1]? = some (.cells #[.int .i64 (x.val : Int)] 3 (0, 0)) := by rw [hald]; exact allocs_at _ V 1 (by simp)
    show Code.wpIn _ _ _ _ _ _ ((V.alloc (.cells #[pt sb] 31)).alloc (.cells #[.int .i64 (x.val : Int)] 3))
    rw [← hVd]
    clear hVd hald
    have hlpd : Vd.heap[lp]? = some (.loop rl) := (hbd.block lp (Array.getElem?_eq_some_iff.1 hrl).1).trans hrl
    have hid : AI w W5.heap.size sb M.length (foldC M (foldH M (vals pre)) (vals ([] : List (Fin M.length)))) Vd := hi.keep hbd
    have hn5 := hi.n
    have hzw := hi.b.size
    have hkfd : KeepsFrom W5.heap.size V Vd := ⟨hbd.size, fun q o _ ho _ => (hbd.block q (Array.getElem?_eq_some_iff.1 ho).1).trans ho⟩
    have hkpd : Kps W5.heap.size (fun q => q = w.heap.size + 1) V Vd := Kps.of_below hbd hn5
    have hbwd := hid.b
    generalize hbs : foldH M (vals pre) = bs at *
    have HBS : Hid (bs.length = M.length) := Lib.hid (by rw [← hbs, foldH_len])
    clear hbs
    refine wpIn_rangeFunc_ownN (α := Fin M.length) (l₀ := lp) (r₀ := rl) rfl hlpd (by omega) (gf := 50) (lb := #[pt (V.heap.size + 1), pt V.heap.size]) rfl trivial (enters_of Try.func50 (by kernel_rfl) rfl)
      (encs := fun y => #[iv y.val]) (Kp := Kps Vd.heap.size (fun q => q = w.heap.size + 1)) (S := fun ys => vals ys = chain M (x.val : Int)) (Sp := fun ys => vals ys <+: chain M (x.val : Int)) (N := (chain M (x.val : Int)).length) (w0 := Vd)
      ?seq2 Kps.trans ?kb2 (Below.refl _ _) (fun _ => rfl)
      (fun pre2 U => AI w W5.heap.size sb M.length (foldC M bs (vals pre2)) U ∧ KeepsFrom W5.heap.size V U ∧ Kps W5.heap.size (fun q => q = w.heap.size + 1) V U ∧ Vd.heap.size ≤ U.heap.size) (fun _ _ _ => False)
      ?own2 (fun _ _ _ _ _ hs _ _ => hs) ⟨hid, hkfd, hkpd, Nat.le_refl _⟩ (fun y a' _ => AC w.heap.size y.val a') (fun _ _ _ _ _ _ hs _ _ => hs) ?assign2 ?body2 ?done2 ?stop2
    case seq2 => exact SeqStopsK.inRound lp (chain_seq HS.out _ HCH.out hcl HOK.out.sub _ (by omega) V.heap.size hbwd Vd.heap.size (fun q => q = w.heap.size + 1) (fun q hq => by omega) hx0 hx1 (by omega) (by omega) (by omega))
    case kb2 => exact Kps.put (Nat.le_refl _)
    case own2 => exact OwnFrom.and (AI.own (by omega) (fun pre2 : List (Fin M.length) => foldC M bs (vals pre2))) (OwnFrom.and (ownFrom_keepsFrom (by omega)) (OwnFrom.and (own_kps (by omega) hn5) own_size))
    case assign2 =>
      rintro lp2 pre2 y U K hi2 hK
      gi_wp2
      exact hK _ _ (KeepsFrom.refl _ _) (Kps.refl _ _ _) hi2 ⟨rfl, rfl, rfl, rfl, rfl⟩
    case body2 =>
      rintro lp2 pre2 y ⟨tm, df⟩ U _ _ ⟨hi2, hk2, hp2, hd2⟩ hx2 hlen2
      obtain ⟨z0, z1, z2, z3, z4, z5, z6, z7, z8, z9, z10, z11, z12, z13, z14, z15, z16, z17, z18, z19, z20, z21, z22, z23, z24, z25, z26, z27, z28, z29, z30, z31, z32, z33, z34, rfl⟩ := arr35 hx2.z
      obtain rfl : z2 = _ := hx2.s2
      obtain rfl : z5 = _ := hx2.s5
      obtain rfl : z7 = _ := hx2.s7
      obtain rfl : df = _ := hx2.d
      have hyl := y.isLt
      obtain ⟨b, off, hA, hb, _, _, _, n3⟩ := HS.out.at_ hyl
      obtain rfl : ma = some ⟨b, off, none⟩ := hA
      have c0 : w.cell? ⟨sb, 0, none⟩ = some (.slice (some ⟨b, off, none⟩) M.length mc) := HS.out.c0
      rw [← hi2.b.cell (p := ⟨sb, 0, none⟩) HS.out.lt] at c0
      rw [← hi2.b.cell (p := ⟨b, off + y.val * 4 + 3, none⟩) hb] at n3
      have u2 := hi2.s.cell
      have u5 := hi2.m.cell
      have hU := hi2.b.size
      have hB2 := hi2.m.lt
      have k0' : (0 : Int) ≤ (y.val : Int) := Int.natCast_nonneg _
      have k1' : (y.val : Int) < (M.length : Int) := by omega
      have hfl : (foldC M bs (vals pre2)).length = M.length := by rw [foldC_len]; exact HBS.out
      have ky := (hi2.r.cellAt y.val (by omega)).trans (map_get Value.bool (by rw [hfl]; exact hyl))
      have fy := hi2.r.frozenAt y.val
      have hse := fun b => Lib.hid (hi2.set y.val b)
      have HSN : Hid (foldC M bs (vals (pre2 ++ [y])) = (foldC M bs (vals pre2)).set y.val (!M[y.val]!.away)) := Lib.hid (by rw [← foldC_snoc]; simp)
      have HK2 := Lib.hid hk2
      have HP2 := Lib.hid hp2
      clear hx2 hlen2 hi2 hk2 hp2 hfl HS HOK HCH HPE HBS
      generalize hav : M[y.val]!.away = av at *
      have HAV := Lib.hid hav
      clear hav
      generalize hfo : foldC M bs (vals pre2) = fo at *
      have HFO := Lib.hid hfo
      clear hfo
      generalize fo[y.val]! = old at *
      gi_upto_region 6 with fail
      refine wpIn_mono (Q := Exit.then (fun _ W' => W' = U.drew.setCell ⟨w.heap.size + 1, y.val, none⟩ (.bool (!av))) (fun _ _ _ => False)) ?reg ?aft
      case reg =>
        refine wpIn_round_still_tail (lp := lp2) 12 mixed (by kernel_rfl) (by kernel_rfl) ?_
        simp only [List.take_succ_cons, List.take_zero, List.drop_succ_cons, List.drop_zero]
        iterate 12 still_step
        refine wpStill_nil ?_
        go_wp2
        rfl
      case aft =>
        rintro e a' W' hp
        cases e with
        | normal =>
          obtain rfl : W' = _ := hp
          gi_wp2
          have ho : KeepsOthers U (U.drew.setCell ⟨w.heap.size + 1, y.val, none⟩ (.bool (!av))) := (KeepsOthers.drew U).trans (KeepsOthers.setCell _ _ _)
          have hz : (U.drew.setCell ⟨w.heap.size + 1, y.val, none⟩ (.bool (!av))).heap.size = U.heap.size := World.size_setCell _ _ _
          have hkp : ∀ n₀, Kps n₀ (fun q => q = w.heap.size + 1) U (U.drew.setCell ⟨w.heap.size + 1, y.val, none⟩ (.bool (!av))) := fun n₀ => ⟨by rw [hz]; exact Nat.le_refl _, fun q _ hm => blk_other hm⟩
          have hi3 := (hse (!av)).out
          refine ⟨ho.from _, hkp _, ?_, HK2.out.trans (ho.from _), HP2.out.trans (hkp _), by rw [hz]; exact hd2⟩
          show AI w _ sb M.length (foldC M bs (vals (pre2 ++ [y]))) _
          rw [HSN.out]
          exact ⟨hi3.r, hi3.m, hi3.s, below_draws hi3.b 1, by rw [hz]; have := hi3.n; rw [World.size_setCell] at this; exact this⟩
        | exit id => exact hp.elim
        | goto t => exact hp.elim
        | ret => exact hp.elim
        | panic ch => exact hp.elim
        | outgrown => exact hp.elim
    case done2 =>
      rintro ys2 U hys2 ⟨hi2, hk2, hp2, hd2⟩
      have HI2 := Lib.hid hi2
      clear hi2
      gi_wp2
      refine ⟨hk2, hp2, ?_⟩
      show AI w _ sb M.length (foldH M (vals (pre ++ [x]))) U
      rw [HPE.out, ← hys2]
      exact HI2.out
    case stop2 =>
      rintro c' pre2 U _ h
      exact h.elim
  case done =>
    rintro D ys V hD hys hi hK
    rw [hys] at hi
    have cb5 := hi.m.cell
    have hB1 := hi.m.lt
    have HI := Lib.hid hi
    have HK := Lib.hid hK
    clear hi hK
    gi_wp2
    exact leave_mark (J := fun (_ : Unit) V => V.ownsRow w.heap.size 4 1 (rowAt (w.heap.size + 1) M.length) M.length ((foldH M (hold M r.toList)).map Value.bool) ∧ Below w.heap.size w V) (OwnFrom.and ((row_own _ _ _ _ _ _).from _) (ownFrom_below (Nat.le_refl _) (Nat.le_refl _))) ()
      (fun V h => by refine ⟨_, results_tmp rfl _ _ _, ?_⟩; exact ⟨rfl, h.1, h.2⟩) (by omega) HK.out ⟨HI.out.r, HI.out.b⟩
  case stop =>
    rintro D c' pre V _ _ h _
    exact h.elim
end Go.Proofs.Ytahhhhacoigpmaa.SF

namespace Go.Proofs.Ytahhhhacoigpmaa.SF
open Go.RowKit Go.Shelf Go.Proofs.Ytahhhhacoigpmaa.B
def mayB (M : List Mb) (k : Int) (r : Key) : Bool := decide (0 ≤ k) && ableB M r k.toNat
set_option maxRecDepth 100000 in
set_option maxHeartbeats 2000000 in
theorem may_any (w : World) (sb : Nat) (A : SA) (M : List Mb) (h : StI w sb A M) (hok : OkM M) (u r : ByteArray) (hu : u.size ≤ 140737488351232) :
    Calls Try.prog 24 #[pt sb, .string u, .string r] w fun e w' => e = .returned (.bool (mayB M (placeL M u.toList) r.toList)) ∧ Below w.heap.size w w' := by
  have CP := Lib.hid (place_any w sb A M h u hu)
  have CA := Lib.hid (able_any w sb A M h hok r)
  obtain ⟨p1, p2⟩ := place_range (M := M) u.toList
  clear h
  have HA := Lib.hid (fun i hi => able_at M r.toList (i := i) hi)
  have HFL := Lib.hid (foldH_len M (hold M r.toList))
  generalize placeL M u.toList = p at *
  by_cases hp : p < 0
  · obtain rfl : p = -1 := by omega
    clear CA
    go_enter Try.func24, Try.ntmps24
    go_wp2_with (go_at_call 30; refine CP.out.mono ?_; rintro e w' ⟨rfl, rfl⟩)
    go_ret
    exact ⟨rfl, Below.refl _ _⟩
  · obtain ⟨k, rfl⟩ : ∃ k : Nat, p = (k : Int) := ⟨p.toNat, by omega⟩
    have hk : k < M.length := by omega
    have h0 : (0 : Int) ≤ (k : Int) := Int.natCast_nonneg _
    have h1 : (k : Int) < (M.length : Int) := by omega
    have HE : Hid (mayB M (k : Int) r.toList = ableB M r.toList k) := Lib.hid (by unfold mayB; rw [decide_eq_true h0, Int.toNat_natCast]; rfl)
    rw [HE.out]
    have HA1 := Lib.hid (HA.out k hk)
    generalize ableB M r.toList k = bk at *
    generalize foldH M (hold M r.toList) = fs at *
    clear HE HA
    go_enter Try.func24, Try.ntmps24
    go_wp2_with (first
      | (go_at_call 30; refine CP.out.mono ?_; rintro e w' ⟨rfl, rfl⟩)
      | (go_at_call 36; (refine CA.out.mono ?_; rintro e w1 ⟨rfl, hr, hb⟩; have ck := (hr.cellAt k (by omega)).trans (by rw [List.getElem?_map, HA1.out, Option.map_some]); have HB := Lib.hid hb; have hlt := World.block_lt_of_cell? _ _ ck; clear hr hb)))
    go_ret
    exact ⟨rfl, HB.out⟩
def ableK (M : List Mb) (r : Key) (k : Nat) : List Nat := (List.range k).filter (ableB M r)
theorem ableK_succ (M : List Mb) (r : Key) (k : Nat) : ableK M r (k + 1) = ableK M r k ++ if ableB M r k then [k] else [] := by
  unfold ableK
  rw [List.range_succ, List.filter_append]
  congr 1
  rw [List.filter_cons, List.filter_nil]
theorem ableK_len (M : List Mb) (r : Key) (k : Nat) : (ableK M r k).length ≤ k := by
  unfold ableK
  have := List.length_filter_le (ableB M r) (List.range k)
  rwa [List.length_range] at this
set_option maxRecDepth 100000 in
set_option maxHeartbeats 4000000 in
theorem ableAll_any (w : World) (sb : Nat) (A : SA) (M : List Mb) (h : StI w sb A M) (hok : OkM M) (r : ByteArray) :
    Calls Try.prog 26 #[pt sb, .string r] w (NmP w M (ableL M r.toList)) := by
  obtain ⟨ma, mc, pb⟩ := A
  have CA := Lib.hid (able_any w sb _ M h hok r)
  have hN := hok.few
  have HS := Lib.hid h
  have HAT := Lib.hid (fun i hi => able_at M r.toList (i := i) hi)
  have HLL : Hid (ableL M r.toList = ableK M r.toList M.length) := Lib.hid rfl
  rw [HLL.out]
  clear h
  obtain ⟨ii, hii0, hii1, hii2, hii3⟩ := info_parts info_st
  have HII0 := Lib.hid hii0
  have HII1 := Lib.hid hii1
  have HII2 := Lib.hid hii2
  have HII3 := Lib.hid hii3
  clear hii0 hii1 hii2 hii3
  generalize foldH M (hold M r.toList) = fs at *
  go_enter Try.func26, Try.ntmps26
  go_wp2_with (go_at_call 36; refine CA.out.mono ?_; rintro e W1 ⟨rfl, hr, hb⟩; have HR := Lib.hid hr; have HB := Lib.hid hb; have hz1 := hb.size; clear hr hb)
  go_loopw [5, 12] (fun v i wr => ∃ k : Nat, k ≤ M.length ∧ i = .int .i64 k ∧ Hid (wr.ownsRow W1.heap.size 9 1 v (ableK M r.toList k).length (nmC M (ableK M r.toList k))) ∧ Hid (Below W1.heap.size W1 wr)) (fun _ i _ => M.length - (intOf i).toNat)
  case atStart => exact ⟨0, Nat.zero_le _, rfl, Lib.hid (World.ownsRow_nil _ _ _ _), Lib.hid (Below.refl _ _)⟩
  case round =>
    obtain ⟨k, hk, rfl, HV, HW⟩ := hrel
    by_cases hlt : k < M.length
    · have hi0 : (0 : Int) ≤ (k : Int) := Int.natCast_nonneg _
      have hi1 : (k : Int) < (M.length : Int) := by omega
      have ck1 : W1.cell? ⟨w.heap.size + 1, k, none⟩ = some (.bool (ableB M r.toList k)) := (HR.out.cellAt k (by omega)).trans (by rw [List.getElem?_map, HAT.out k hlt]; rfl)
      have hlr := World.block_lt_of_cell? _ _ ck1
      have ck := (HW.out.cell (p := ⟨w.heap.size + 1, k, none⟩) hlr).trans ck1
      have hzr := HW.out.size
      have hlr2 : w.heap.size + 1 < wr.heap.size := Nat.lt_of_lt_of_le hlr hzr
      have HKS := Lib.hid (ableK_succ M r.toList k)
      obtain ⟨b, off, hA, hb, n0, _, _, _⟩ := HS.out.at_ hlt
      obtain rfl : ma = some ⟨b, off, none⟩ := hA
      have c0 : w.cell? ⟨sb, 0, none⟩ = some (.slice (some ⟨b, off, none⟩) M.length mc) := HS.out.c0
      have hsl := HS.out.lt
      have hbw : Below w.heap.size w wr := HB.out.trans (HW.out.mono hz1)
      rw [← hbw.cell (p := ⟨sb, 0, none⟩) hsl] at c0
      rw [← hbw.cell (p := ⟨b, off + k * 4, none⟩) hb] at n0
      have hsl2 : sb < wr.heap.size := by have := hbw.size; omega
      have hb2 : b < wr.heap.size := by have := hbw.size; omega
      have hkl := ableK_len M r.toList k
      obtain ⟨va, vc, hv⟩ := own_slice HV.out
      subst hv
      have HVV := Lib.hid HV.out
      clear ck1 hbw HV hlr
      cases hh : ableB M r.toList k with
      | false =>
        rw [hh] at ck HKS
        rw [if_neg (by decide), List.append_nil] at HKS
        clear hh
        generalize ableK M r.toList k = ak at *
        go_wp2_with fail
        go_roundw
        case rel => exact ⟨k + 1, hlt, by go_num, by rw [HKS.out]; exact HVV, HW⟩
        case measure => simp [intOf]; omega
      | true =>
        rw [hh] at ck HKS
        rw [if_pos rfl] at HKS
        clear hh
        have HSN : Hid (nmC M (ableK M r.toList (k + 1)) = nmC M (ableK M r.toList k) ++ [.string M[k]!.name]) := Lib.hid (by rw [HKS.out, nmC_snoc])
        have HSL : Hid ((ableK M r.toList (k + 1)).length = (ableK M r.toList k).length + 1) := Lib.hid (by rw [HKS.out, List.length_append, List.length_singleton])
        generalize M[k]!.name = nm at *
        generalize nmC M (ableK M r.toList k) = nk at *
        generalize (ableK M r.toList k).length = lk at *
        go_wp2_with (at_builtin; refine wpList_append_own_at _ rfl (.tmp 18) (.tmp 27) 43 rfl W1.heap.size 9 ii _ 1 16 Try.underlying43 HII0.out HII1.out HII2.out HII3.out rfl (by omega) _ _ _ rfl (HVV.out.alloc _) ⟨wr.heap.size, 0, none⟩ 1 1 [.string nm] rfl rfl (fun j u hj => by rw [Addr.add_lit, Nat.zero_add]; exact cell_blk (heap_new _ _) (by simpa using hj)) (by intro u hu; simp at hu; subst hu; rfl) (by unfold maxLen; omega) (by omega) (by rw [World.size_alloc]; omega) ?_; intro v' w1 hown' hgrow _ _; obtain ⟨pa, pc, rfl⟩ := own_slice hown'; have HG := Lib.hid hgrow; have HO := Lib.hid hown'; clear hown' hgrow)
        have hba := (Below.refl wr.heap.size wr).alloc (Nat.le_refl _) (.cells #[.string nm] 9)
        have HWN := Lib.hid ((HW.out.alloc hzr (.cells #[.string nm] 9)).grown HG.out (by rw [World.size_alloc]; omega) (fun q hq => (HVV.out.lt q hq).1))
        go_roundw
        case rel => exact ⟨k + 1, hlt, by go_num, by rw [HSN.out, HSL.out]; exact HO, HWN⟩
        case measure => simp [intOf]; omega
    · obtain rfl : k = M.length := by omega
      go_wp2_with fail
      go_ret
      exact ⟨_, rfl, own_base HV.out hz1, HB.out.trans (HW.out.mono hz1)⟩
end Go.Proofs.Ytahhhhacoigpmaa.SF
