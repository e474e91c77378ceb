/-
  Contracts of package staff: Holders, Chain, For, Next.
-/
import Derived.Test.YtahhhhacoigpmaaScac
import Derived.Test.YtahhhhacoigpmaaScad
import Derived.Maps.AppendAt
import Derived.Maps.OwnIn
import Derived.Sort.CutIn
namespace Go.Proofs.Ytahhhhacoigpmaa.SF
open Go.RowKit Go.Shelf Go.Proofs.Ytahhhhacoigpmaa.B
attribute [local go_sem] Oper.semAt_some
theorem info_st : (Try.prog.info? 9).map (fun i => (i.zero, i.size, i.bytes)) = some (some (.string ⟨#[]⟩), 1, 16) := by kernel_rfl
theorem mixed : Try.prog.follows .mixedOrders = true := by kernel_rfl
/-- The texts of some places' names. -/
def nmC (M : List Mb) (l : List Nat) : List Value := (nmL M l).map Value.string
theorem nmC_snoc (M : List Mb) (l : List Nat) (x : Nat) : nmC M (l ++ [x]) = nmC M l ++ [.string M[x]!.name] := by simp [nmC, nmL]
theorem nmL_len (M : List Mb) (l : List Nat) : (nmL M l).length = l.length := by simp [nmL]
theorem arr23 {t : Array Value} (h : t.size = 23) : ∃ x0 x1 x2 x3 x4 x5 x6 x7 x8 x9 x10 x11 x12 x13 x14 x15 x16 x17 x18 x19 x20 x21 x22, t = #[x0, x1, x2, x3, x4, x5, x6, x7, x8, x9, x10, x11, x12, x13, x14, x15, x16, x17, x18, x19, x20, x21, x22] := by
  obtain ⟨l⟩ := t
  match l, h with
  | x0 :: x1 :: x2 :: x3 :: x4 :: x5 :: x6 :: x7 :: x8 :: x9 :: x10 :: x11 :: x12 :: x13 :: x14 :: x15 :: x16 :: x17 :: x18 :: x19 :: x20 :: x21 :: x22 :: [], _ => exact ⟨x0, x1, x2, x3, x4, x5, x6, x7, x8, x9, x10, x11, x12, x13, x14, x15, x16, x17, x18, x19, x20, x21, x22, rfl⟩
theorem arr25 {t : Array Value} (h : t.size = 25) : ∃ x0 x1 x2 x3 x4 x5 x6 x7 x8 x9 x10 x11 x12 x13 x14 x15 x16 x17 x18 x19 x20 x21 x22 x23 x24, t = #[x0, x1, x2, x3, x4, x5, x6, x7, x8, x9, x10, x11, x12, x13, x14, x15, x16, x17, x18, x19, x20, x21, x22, x23, x24] := by
  obtain ⟨l⟩ := t
  match l, h with
  | x0 :: x1 :: x2 :: x3 :: x4 :: x5 :: x6 :: x7 :: x8 :: x9 :: x10 :: x11 :: x12 :: x13 :: x14 :: x15 :: x16 :: x17 :: x18 :: x19 :: x20 :: x21 :: x22 :: x23 :: x24 :: [], _ => exact ⟨x0, x1, x2, x3, x4, x5, x6, x7, x8, x9, x10, x11, x12, x13, x14, x15, x16, x17, x18, x19, x20, x21, x22, x23, x24, rfl⟩
theorem arr28 {t : Array Value} (h : t.size = 28) : ∃ x0 x1 x2 x3 x4 x5 x6 x7 x8 x9 x10 x11 x12 x13 x14 x15 x16 x17 x18 x19 x20 x21 x22 x23 x24 x25 x26 x27, t = #[x0, x1, x2, x3, x4, x5, x6, x7, x8, x9, x10, x11, x12, x13, x14, x15, x16, x17, x18, x19, x20, x21, x22, x23, x24, x25, x26, x27] := by
  obtain ⟨l⟩ := t
  match l, h with
  | x0 :: x1 :: x2 :: x3 :: x4 :: x5 :: x6 :: x7 :: x8 :: x9 :: x10 :: x11 :: x12 :: x13 :: x14 :: x15 :: x16 :: x17 :: x18 :: x19 :: x20 :: x21 :: x22 :: x23 :: x24 :: x25 :: x26 :: x27 :: [], _ => exact ⟨x0, x1, x2, x3, x4, x5, x6, x7, x8, x9, x10, x11, x12, x13, x14, x15, x16, x17, x18, x19, x20, x21, x22, x23, x24, x25, x26, x27, rfl⟩
theorem arr29 {t : Array Value} (h : t.size = 29) : ∃ x0 x1 x2 x3 x4 x5 x6 x7 x8 x9 x10 x11 x12 x13 x14 x15 x16 x17 x18 x19 x20 x21 x22 x23 x24 x25 x26 x27 x28, t = #[x0, x1, x2, x3, x4, x5, x6, x7, x8, x9, x10, x11, x12, x13, x14, x15, x16, x17, x18, x19, x20, x21, x22, x23, x24, x25, x26, x27, x28] := by
  obtain ⟨l⟩ := t
  match l, h with
  | x0 :: x1 :: x2 :: x3 :: x4 :: x5 :: x6 :: x7 :: x8 :: x9 :: x10 :: x11 :: x12 :: x13 :: x14 :: x15 :: x16 :: x17 :: x18 :: x19 :: x20 :: x21 :: x22 :: x23 :: x24 :: x25 :: x26 :: x27 :: x28 :: [], _ => exact ⟨x0, x1, x2, x3, x4, x5, x6, x7, x8, x9, x10, x11, x12, x13, x14, x15, x16, x17, x18, x19, x20, x21, x22, x23, x24, x25, x26, x27, x28, rfl⟩
/-- What a loop that gathers names keeps: the box of the list (B + 1), of the staff (B), the list itself. -/
structure GI (w : World) (n₀ sb : Nat) (M : List Mb) (l : List Nat) (V : World) : Prop where
  l : ∃ v, Boxed V (w.heap.size + 1) 43 v ∧ V.ownsRow n₀ 9 1 v l.length (nmC M l) ∧ True
  s : Boxed V w.heap.size 31 (pt sb)
  b : Below w.heap.size w V
  n : n₀ ≤ V.heap.size
theorem GI.own {w : World} {n₀ sb N : Nat} {M : List Mb} {B : Nat} (hB : w.heap.size ≤ B) : OwnFrom B (fun (pre : List (Fin N)) V => GI w n₀ sb M (vals pre) V) := by
  have h1 : OwnFrom B (fun (pre : List (Fin N)) V => (∃ v, Boxed V (w.heap.size + 1) 43 v ∧ V.ownsRow n₀ 9 1 v (vals pre).length (nmC M (vals pre)) ∧ True) ∧ Boxed V w.heap.size 31 (pt sb) ∧ Below w.heap.size w V ∧ n₀ ≤ V.heap.size) :=
    OwnFrom.and ((holdsRow_own n₀ (w.heap.size + 1) 43 9 1 (fun pre : List (Fin N) => (vals pre).length) (fun pre => nmC M (vals pre)) (fun _ _ => True)).from _)
      (OwnFrom.and ((boxed_own w.heap.size 31 (fun _ : List (Fin N) => pt sb)).from _) (OwnFrom.and (ownFrom_below (Nat.le_refl _) hB) (fun _ _ _ _ hs hg _ => Nat.le_trans hs hg.size)))
  intro s X Y row hs hg hr
  obtain ⟨a, b, c, d⟩ := h1 s X Y row ⟨hs.l, hs.s, hs.b, hs.n⟩ hg hr
  exact ⟨a, b, c, d⟩
theorem GI.step {w V w1 : World} {n₀ sb : Nat} {M : List Mb} {l : List Nat} {v v' : Value} {tmp : Obj} {x : Nat} (h : GI w n₀ sb M l V) (hn : w.heap.size + 1 < n₀) (hv : Boxed V (w.heap.size + 1) 43 v) (hrow : V.ownsRow n₀ 9 1 v l.length (nmC M l))
    (hown' : w1.ownsRow n₀ 9 1 v' (l.length + 1) (nmC M l ++ [.string M[x]!.name])) (hgrow : (V.drew.alloc tmp).grownBy w1 v.ownBlock) :
    GI w n₀ sb M (l ++ [x]) (w1.setCell ⟨w.heap.size + 1, 0, none⟩ v') ∧ Kps n₀ (fun q => q = w.heap.size + 1) V (w1.setCell ⟨w.heap.size + 1, 0, none⟩ v') ∧ KeepsFrom n₀ V (w1.setCell ⟨w.heap.size + 1, 0, none⟩ v') := by
  have hz : (V.drew.alloc tmp).heap.size = V.heap.size + 1 := World.size_alloc _ _
  have hg0 := hgrow.size
  rw [hz] at hg0
  have hblk : ∀ k, k < V.heap.size → (∀ g, v.ownBlock = some g → k ≠ g) → w1.heap[k]? = V.heap[k]? := fun k hk hne =>
    (hgrow.block k (by rw [hz]; omega) (fun e => hne k e.symm rfl)).trans (Below.heap_alloc V.drew tmp k hk)
  have hlow : ∀ k, k < n₀ → k < V.heap.size → w1.heap[k]? = V.heap[k]? := fun k hk hkv => hblk k hkv (fun g hg => by have := (hrow.lt g hg).1; omega)
  have hv1 : Boxed w1 (w.heap.size + 1) 43 v := (hlow _ hn hv.lt).trans hv
  have hne' : v'.ownBlock ≠ some (w.heap.size + 1) := fun e => by have := (hown'.lt _ e).1; omega
  refine ⟨⟨⟨v', hv1.set v', ?_, trivial⟩, ?_, ?_, ?_⟩, ⟨?_, ?_⟩, ?_⟩
  · rw [nmC_snoc, List.length_append, List.length_singleton]
    exact own_set hown' hne' v'
  · exact (blk_other (by omega)).trans ((hlow _ (by omega) h.s.lt).trans h.s)
  · have hba : Below w.heap.size w (V.drew.alloc tmp) := (below_draws h.b 1).alloc h.b.size tmp
    exact (hba.grown hgrow hba.size (fun k e => by have := (hrow.lt k e).1; omega)).setCell (p := ⟨w.heap.size + 1, 0, none⟩) (Nat.le_succ _) v'
  · have := h.n; rw [World.size_setCell]; omega
  · rw [World.size_setCell]; omega
  · intro k hk hm
    exact (blk_other hm).trans (hlow k hk (by have := h.n; omega))
  · refine ⟨by rw [World.size_setCell]; omega, fun k o hk ho hoc => ?_⟩
    have hkl := blk_lt ho
    refine (blk_other (by omega)).trans ((hblk k hkl (fun g hg e => ?_)).trans ho)
    rcases hrow.2 with ⟨rfl, _⟩ | ⟨g', cap, cur, rfl, _, hgb, _⟩
    · cases hg
    · simp only [Value.ownBlock, Option.some.injEq] at hg
      subst hg e
      rw [hgb] at ho
      cases ho
      cases hoc
theorem GI.low {w V w1 : World} {n₀ sb : Nat} {M : List Mb} {l : List Nat} {v : Value} {tmp : Obj} (h : GI w n₀ sb M l V) (hrow : V.ownsRow n₀ 9 1 v l.length (nmC M l)) (hgrow : (V.drew.alloc tmp).grownBy w1 v.ownBlock) (k : Nat) (hk : k < n₀) : w1.heap[k]? = V.heap[k]? := by
  have hn := h.n
  have hz : (V.drew.alloc tmp).heap.size = V.heap.size + 1 := World.size_alloc _ _
  exact (hgrow.block k (by rw [hz]; omega) (fun e => by have := (hrow.lt k e.symm).1; omega)).trans (Below.heap_alloc V.drew tmp k (show k < V.heap.size by omega))
theorem row_own {β : Type} (B e z n : Nat) (v : Value) (xs : List Value) : Own (fun (_ : β) W => W.ownsRow B e z v n xs) := fun s X Y row hs hg hr => hs.kept hg (by
  cases hv : v.ownBlock with
  | none => exact .inl rfl
  | some g =>
    right; intro e'
    obtain ⟨o, ho, hc⟩ := hr g e'.symm
    rcases hs.2 with ⟨rfl, _⟩ | ⟨g', cap, cur, rfl, _, hg', _⟩
    · cases hv
    · simp only [Value.ownBlock, Option.some.injEq] at hv
      subst hv
      rw [hg'] at ho; cases ho; cases hc)
theorem wp_append_own {P : Program} {o : Oper} {a : Act} {w : World} {K : Act → World → Prop} {Q : Exit → Act → World → Prop} (s x : Operand) (t : TypeId) (hop : o.op = Op.call { callee := Callee.builtin Builtin.append, args := #[s, x], argTypes := #[t, t] })
    (B : Nat) (e : TypeId) (i : TypeInfo) (z : Value) (size bytes : Nat) (h1 : P.underlying t = some (.slice e)) (h2 : P.info? e = some i) (h3 : i.zero = some z) (h4 : i.size = size) (h5 : i.bytes = bytes) (h6 : z.cells.size = size) (h7 : 0 < size)
    (v : Value) (n : Nat) (xs : List Value) (hs : a.eval s = v) (hown : w.ownsRow B e size v n xs)
    (ad : Addr) (m c : Nat) (news : List Value) (hx : a.eval x = .slice (some ad) m c) (hn : news.length = m * size) (hc : ∀ j u, news[j]? = some u → w.cell? (ad.add j) = some u) (h1c : ∀ u ∈ news, u.oneCell' = true)
    (b1 : n + m ≤ maxLen) (b2 : (n + m) * bytes ≤ 140737488355328) (hb : B ≤ w.heap.size)
    (hK : ∀ v' w', w'.ownsRow B e size v' (n + m) (xs ++ news) → w.grownBy w' v.ownBlock → K (a.put o.dst v') w') : o.wp P a w K Q := by
  obtain ⟨v', w', hrun, r1, r2, _⟩ := run_append_own_at (P := P) w B t o.type e i z size bytes h1 h2 h3 h4 h5 h6 h7 v n xs hown ad m c news hn hc h1c b1 b2 hb
  unfold Oper.wp
  simp [execOp, hop, resolve, invoke, builtin, hs, hx, hrun, Result.andThen]
  exact hK v' w' r1 r2
/-- The marks of one loop that has ended. -/
theorem leave_mark {β : Type} {n : Nat} {P : Program} {fn : Func} {tmps : Array Value} {R : Ending → World → Prop} {B D : Nat} {J : β → World → Prop} (hJ : OwnFrom B J) (s : β) {W : World} (hr : ∀ W, J s W → ∃ v, (results fn tmps).run P W = .ok v W ∧ R (.returned v) W) (hD : B ≤ D) (hd : W.heap[D]? = some (.deferred (some []))) (h : J s W) :
    LeavesInM Fence.wide n P fn tmps R [{ target := .collected D, args := #[] }] .returning W :=
  ⟨by simp, .inl ⟨D, _, rfl, run_takeDeferred hd, hr _ (hJ.putObj _ h hD hd rfl)⟩⟩
theorem allocs_below : ∀ (os : List Obj) (W : World) {B : Nat}, B ≤ W.heap.size → Below B W (os.foldl World.alloc W)
  | [], W, _, _ => Below.refl _ _
  | o :: r, W, B, hB => ((Below.refl _ W).alloc hB o).trans (allocs_below r (W.alloc o) (by rw [World.size_alloc]; omega))
theorem allocs_size : ∀ (os : List Obj) (W : World), (os.foldl World.alloc W).heap.size = W.heap.size + os.length
  | [], _ => rfl
  | o :: r, W => by rw [List.foldl_cons, allocs_size r, World.size_alloc, List.length_cons]; omega
theorem allocs_at : ∀ (os : List Obj) (W : World) (k : Nat), k < os.length → (os.foldl World.alloc W).heap[W.heap.size + k]? = os[k]?
  | [], _, _, h => by simp at h
  | o :: r, W, 0, _ => ((allocs_below r (W.alloc o) (B := W.heap.size + 1) (by rw [World.size_alloc]; exact Nat.le_refl _)).block _ (by omega)).trans (heap_new W o)
  | o :: r, W, k + 1, h => by
    have := allocs_at r (W.alloc o) k (by simpa using h)
    rw [World.size_alloc, show W.heap.size + 1 + k = W.heap.size + (k + 1) by omega] at this
    exact this
/-- The frame in a round. -/
structure HB (n B x : Nat) (a : Act) : Prop where
  z : a.tmps.size = n
  s2 : a.tmps.getD 2 undef = pt B
  s5 : a.tmps.getD 5 undef = pt (B + 1)
  s6 : a.tmps.getD 6 undef = iv x
  d : a.defers = []
/-- Names of some places of one's own, as a call hands them back. -/
def NmP (w : World) (M : List Mb) (l : List Nat) (e : Ending) (w' : World) : Prop :=
  ∃ v, e = .returned v ∧ w'.ownsRow w.heap.size 9 1 v l.length (nmC M l) ∧ Below w.heap.size w w'

-- GATHER
set_option maxRecDepth 100000 in
set_option maxHeartbeats 4000000 in
theorem holders_any (w : World) (sb : Nat) (A : SA) (M : List Mb) (h : StI w sb A M) (hN : M.length ≤ 40) (hro : ∀ m ∈ M, m.roles.length ≤ 8) (r : ByteArray) :
    Calls Try.prog 16 #[pt sb, .string r] w (NmP w M (hold M r.toList)) := by
  obtain ⟨ma, mc, pb⟩ := A
  refine (callsIn_wide (n := 8)).1 ?_
  refine callsIn_of_wp_marks Try.func16 rfl trivial ?_ rfl
  simp only [Try.ntmps16, List.size_toArray, List.length_cons, List.length_nil, Nat.reduceAdd, Nat.reduceSub, Array.replicate_succ, Array.replicate_zero, List.push_toArray, List.append_toArray, List.nil_append, List.cons_append]
  have HS := Lib.hid h
  clear h
  gi_wp2_with (refine ⟨trivial, ?_⟩; gi_at_call 33; refine (holders_mk _ sb r _).mono ?_; rintro e w' ⟨rfl, rfl⟩)
  obtain ⟨W4, hW4⟩ : ∃ W4, W4 = ((((w.alloc (.cells #[pt sb] 31)).alloc (.cells #[.slice none 0 0] 43)).alloc (.cells #[pt sb] 31)).alloc (.cells #[.string r] 9)) := ⟨_, rfl⟩
  have hal : W4 = [Obj.cells #[pt sb] 31, Obj.cells #[.slice none 0 0] 43, Obj.cells #[pt sb] 31, Obj.cells #[.string r] 9].foldl World.alloc w := hW4
  have hs4 : W4.heap.size = w.heap.size + 4 := by rw [hal, allocs_size]; rfl
  have hb4 : Below w.heap.size w W4 := by rw [hal]; exact allocs_below _ _ (Nat.le_refl _)
  have a0 : W4.heap[w.heap.size + 0]? = some (.cells #[pt sb] 31 (0, 0)) := by rw [hal]; exact allocs_at _ w 0 (by simp)
  have a1 : W4.heap[w.heap.size + 1]? = some (.cells #[.slice none 0 0] 43 (0, 0)) := by rw [hal]; exact allocs_at _ w 1 (by simp)
  have a2 : W4.heap[w.heap.size + 2]? = some (.cells #[pt sb] 31 (0, 0)) := by rw [hal]; exact allocs_at _ w 2 (by simp)
  have a3 : W4.heap[w.heap.size + 3]? = some (.cells #[.string r] 9 (0, 0)) := by rw [hal]; exact allocs_at _ w 3 (by simp)
  show Code.wpIn _ _ _ _ _ _ ((((w.alloc (.cells #[pt sb] 31)).alloc (.cells #[.slice none 0 0] 43)).alloc (.cells #[pt sb] 31)).alloc (.cells #[.string r] 9))
  rw [← hW4]
  clear hW4 hal
  refine wpIn_rangeFunc_ownH (α := Fin M.length) rfl (by omega) (gf := 48) (lb := #[pt (w.heap.size + 2), pt (w.heap.size + 3)]) rfl trivial (enters_of Try.func48 (by kernel_rfl) rfl)
    (encs := fun x => #[iv x.val]) (Kp := Kps W4.heap.size (fun q => q = w.heap.size + 1)) (S := fun ys => vals ys = hold M r.toList) (Sp := fun ys => vals ys <+: hold M r.toList) (N := (hold M r.toList).length) (w0 := W4)
    ?seq Kps.trans ?kb (Below.refl _ _) (fun _ => rfl)
    (fun pre V => GI w W4.heap.size sb M (vals pre) V) (fun _ _ _ => False)
    ?own (fun _ _ _ _ _ hs _ _ => hs) ?start (fun x a' _ => HB 23 w.heap.size x.val a') (fun _ _ _ _ _ _ hs _ _ => hs) ?assign ?body ?done ?stop
  case seq => exact holders_seq HS.out hN hro r 7 (by omega) (w.heap.size + 2) hb4 W4.heap.size (fun q => q = w.heap.size + 1) (fun q hq => by omega) a2 a3 (by omega) (by omega) (by omega) (Nat.le_refl _)
  case kb => exact Kps.put (Nat.le_refl _)
  case own => exact GI.own (by omega)
  case start => exact ⟨⟨_, a1, World.ownsRow_nil _ _ _ _, trivial⟩, a0, hb4, Nat.le_refl _⟩
  case assign =>
    rintro lp pre x V K hi hK
    gi_wp2
    exact hK _ _ (KeepsFrom.refl _ _) (Kps.refl _ _ _) hi ⟨rfl, rfl, rfl, rfl, rfl⟩
  case body =>
    rintro lp pre x ⟨tm, df⟩ V _ _ hi hx hlen
    obtain ⟨y0, y1, y2, y3, y4, y5, y6, y7, y8, y9, y10, y11, y12, y13, y14, y15, y16, y17, y18, y19, y20, y21, y22, rfl⟩ := arr23 hx.z
    obtain rfl : y2 = _ := hx.s2
    obtain rfl : y5 = _ := hx.s5
    obtain rfl : y6 = _ := hx.s6
    obtain rfl : df = _ := hx.d
    have hpl : (vals pre).length ≤ 40 := by
      rw [List.length_map]
      have h1 : (hold M r.toList).length ≤ M.length := holdK_len M r.toList M.length
      omega
    have hpe : vals (pre ++ [x]) = vals pre ++ [x.val] := by simp
    have HPE := Lib.hid hpe
    clear hx hlen hpe
    have hxl := x.isLt
    obtain ⟨v, hv, hrow, _⟩ := hi.l
    obtain ⟨va, vc, rfl⟩ := own_slice hrow
    obtain ⟨b, off, hA, hb, n0, _, _, _⟩ := HS.out.at_ hxl
    obtain rfl : ma = some ⟨b, off, none⟩ := hA
    have c0 : w.cell? ⟨sb, 0, none⟩ = some (.slice (some ⟨b, off, none⟩) M.length mc) := HS.out.c0
    rw [← hi.b.cell (p := ⟨sb, 0, none⟩) HS.out.lt] at c0
    rw [← hi.b.cell (p := ⟨b, off + x.val * 4, none⟩) hb] at n0
    have cb2 := hi.s.cell
    have cb5 := hv.cell
    have fb5 := hv.frozen
    have hB1 := hv.lt
    have hk0 : (0 : Int) ≤ (x.val : Int) := Int.natCast_nonneg _
    have hk1 : (x.val : Int) < (M.length : Int) := by omega
    have hsl := HS.out.lt
    have HI := Lib.hid hi
    have HV := Lib.hid hv
    have HR := Lib.hid hrow
    obtain ⟨ii, hii0, hii1, hii2, hii3⟩ := info_parts info_st
    have HII0 := Lib.hid hii0
    have HII1 := Lib.hid hii1
    have HII2 := Lib.hid hii2
    have HII3 := Lib.hid hii3
    have HST := fun v' w1 tmp (e : w1.ownsRow W4.heap.size 9 1 v' ((vals pre).length + 1) (nmC M (vals pre) ++ [.string M[x.val]!.name])) (g : (V.drew.alloc tmp).grownBy w1 (Value.slice va (vals pre).length vc).ownBlock) => Lib.hid (HI.out.step (by omega) HV.out HR.out e g)
    have HLO := Lib.hid (fun k (hk : k < W4.heap.size) tmp w1 (g : (V.drew.alloc tmp).grownBy w1 (Value.slice va (vals pre).length vc).ownBlock) => HI.out.low HR.out g k hk)
    have hn4 := hi.n
    have S0 : Hid (V.drew.cell? ⟨w.heap.size, 0, none⟩ = some (pt sb) ∧ V.drew.cell? ⟨w.heap.size + 1, 0, none⟩ = some (.slice va (vals pre).length vc) ∧ V.drew.cell? ⟨sb, 0, none⟩ = some (.slice (some ⟨b, off, none⟩) M.length mc) ∧ V.drew.cell? ⟨b, off + x.val * 4, none⟩ = some (.string M[x.val]!.name)) := Lib.hid ⟨cb2, cb5, c0, n0⟩
    have hbw : b < W4.heap.size := by omega
    have hsw : sb < W4.heap.size := by omega
    clear hi hv hrow hii0 hii1 hii2 hii3 HS cb2 cb5 c0 n0
    generalize M[x.val]!.name = nm at *
    generalize vals pre = vp at *
    gi_upto_region 4 with fail
    refine wpIn_mono (Q := Exit.then (fun _ W' => GI w W4.heap.size sb M (vp ++ [x.val]) W' ∧ Kps W4.heap.size (fun q => q = w.heap.size + 1) V W' ∧ KeepsFrom W4.heap.size V W') (fun _ _ _ => False)) ?reg ?aft
    case reg =>
      refine wpIn_region_any mixed (any_round (by kernel_rfl) _ _ _ _ (any_of_T (S := fun W => W.cell? ⟨w.heap.size, 0, none⟩ = some (pt sb) ∧ W.cell? ⟨w.heap.size + 1, 0, none⟩ = some (.slice va vp.length vc) ∧ W.cell? ⟨sb, 0, none⟩ = some (.slice (some ⟨b, off, none⟩) M.length mc) ∧ W.cell? ⟨b, off + x.val * 4, none⟩ = some (.string nm)) (z := 11) _ _ _ _ ?_))
      change wpAnyT _ _ _ _ _ _ _ _ _ V.drew
      refine anyT_take (i := 0) 0 [] (v := ?_) rfl (by kernel_rfl) (by kernel_rfl) (by kernel_rfl) (by kernel_rfl) (fun _ _ _ h => h) S0.out (by rfl) ?_ ?_
      rotate_left
      · intro W9 hSw
        obtain ⟨q0, q1, q2, q3⟩ := hSw
        go_simp
        try with_reducible rfl
      simp only [Act.put, List.setIfInBounds_toArray]
      try simp only [List.set_cons_zero, List.set_cons_succ]
      try simp only [List.getElem_toArray]
      repeat (first | simp only [List.getElem_cons_zero] | simp only [List.getElem_cons_succ])
      refine anyT_take (i := 1) 1 [] (v := ?_) rfl (by kernel_rfl) (by kernel_rfl) (by kernel_rfl) (by kernel_rfl) (fun _ _ _ h => h) S0.out (by rfl) ?_ ?_
      rotate_left
      · intro W9 hSw
        obtain ⟨q0, q1, q2, q3⟩ := hSw
        go_simp
        try with_reducible rfl
      simp only [Act.put, List.setIfInBounds_toArray]
      try simp only [List.set_cons_zero, List.set_cons_succ]
      try simp only [List.getElem_toArray]
      repeat (first | simp only [List.getElem_cons_zero] | simp only [List.getElem_cons_succ])
      refine anyT_take (i := 2) 2 [] (v := ?_) rfl (by kernel_rfl) (by kernel_rfl) (by kernel_rfl) (by kernel_rfl) (fun _ _ _ h => h) S0.out (by rfl) ?_ ?_
      rotate_left
      · intro W9 hSw
        obtain ⟨q0, q1, q2, q3⟩ := hSw
        go_simp
        try with_reducible rfl
      simp only [Act.put, List.setIfInBounds_toArray]
      try simp only [List.set_cons_zero, List.set_cons_succ]
      try simp only [List.getElem_toArray]
      repeat (first | simp only [List.getElem_cons_zero] | simp only [List.getElem_cons_succ])
      refine anyT_take (i := 3) 3 [] (v := ?_) rfl (by kernel_rfl) (by kernel_rfl) (by kernel_rfl) (by kernel_rfl) (fun _ _ _ h => h) S0.out (by rfl) ?_ ?_
      rotate_left
      · intro W9 hSw
        obtain ⟨q0, q1, q2, q3⟩ := hSw
        go_simp
        try with_reducible rfl
      simp only [Act.put, List.setIfInBounds_toArray]
      try simp only [List.set_cons_zero, List.set_cons_succ]
      try simp only [List.getElem_toArray]
      repeat (first | simp only [List.getElem_cons_zero] | simp only [List.getElem_cons_succ])
      refine anyT_take (i := 4) 4 [] (v := ?_) rfl (by kernel_rfl) (by kernel_rfl) (by kernel_rfl) (by kernel_rfl) (fun _ _ _ h => h) S0.out (by rfl) ?_ ?_
      rotate_left
      · intro W9 hSw
        obtain ⟨q0, q1, q2, q3⟩ := hSw
        go_simp
        try with_reducible rfl
      simp only [Act.put, List.setIfInBounds_toArray]
      try simp only [List.set_cons_zero, List.set_cons_succ]
      try simp only [List.getElem_toArray]
      repeat (first | simp only [List.getElem_cons_zero] | simp only [List.getElem_cons_succ])
      refine anyT_take (i := 5) 5 [] (v := ?_) rfl (by kernel_rfl) (by kernel_rfl) (by kernel_rfl) (by kernel_rfl) (fun _ _ _ h => h) S0.out (by rfl) ?_ ?_
      rotate_left
      · intro W9 hSw
        obtain ⟨q0, q1, q2, q3⟩ := hSw
        go_simp
        try with_reducible rfl
      simp only [Act.put, List.setIfInBounds_toArray]
      try simp only [List.set_cons_zero, List.set_cons_succ]
      try simp only [List.getElem_toArray]
      repeat (first | simp only [List.getElem_cons_zero] | simp only [List.getElem_cons_succ])
      refine anyT_take (i := 6) 6 [] (v := ?_) rfl (by kernel_rfl) (by kernel_rfl) (by kernel_rfl) (by kernel_rfl) (fun _ _ _ h => h) S0.out (by rfl) ?_ ?_
      rotate_left
      · intro W9 hSw
        obtain ⟨q0, q1, q2, q3⟩ := hSw
        go_simp
        try with_reducible rfl
      simp only [Act.put, List.setIfInBounds_toArray]
      try simp only [List.set_cons_zero, List.set_cons_succ]
      try simp only [List.getElem_toArray]
      repeat (first | simp only [List.getElem_cons_zero] | simp only [List.getElem_cons_succ])
      refine anyT_take (i := 7) 7 [] (v := ?_) rfl (by kernel_rfl) (by kernel_rfl) (by kernel_rfl) (by kernel_rfl) (fun _ _ _ h => h) S0.out (by rfl) ?_ ?_
      rotate_left
      · intro W9 hSw
        obtain ⟨q0, q1, q2, q3⟩ := hSw
        go_simp
        try with_reducible rfl
      simp only [Act.put, List.setIfInBounds_toArray]
      try simp only [List.set_cons_zero, List.set_cons_succ]
      try simp only [List.getElem_toArray]
      repeat (first | simp only [List.getElem_cons_zero] | simp only [List.getElem_cons_succ])
      refine anyT_take (i := 8) 8 [] (v := ?_) rfl (by kernel_rfl) (by kernel_rfl) (by kernel_rfl) (by kernel_rfl) (fun _ _ _ h => h) S0.out (by rfl) ?_ ?_
      rotate_left
      · intro W9 hSw
        obtain ⟨q0, q1, q2, q3⟩ := hSw
        go_simp
        try with_reducible rfl
      simp only [Act.put, List.setIfInBounds_toArray]
      try simp only [List.set_cons_zero, List.set_cons_succ]
      try simp only [List.getElem_toArray]
      repeat (first | simp only [List.getElem_cons_zero] | simp only [List.getElem_cons_succ])
      refine anyT_one' (i := 9) (by kernel_rfl) rfl (by rfl) (fun K hK => ?_)
      have HK := Lib.hid hK
      clear hK
      unfold Oper.wp
      go_simp
      refine HK.out _ _ (fun _ => ?_) ?_
      · obtain ⟨q0, q1, q2, q3⟩ := S0.out
        exact ⟨(World.cell?_alloc_lt _ _ ⟨w.heap.size, 0, none⟩ (show w.heap.size < V.heap.size by omega)).trans q0, (World.cell?_alloc_lt _ _ ⟨w.heap.size + 1, 0, none⟩ (show w.heap.size + 1 < V.heap.size by omega)).trans q1, (World.cell?_alloc_lt _ _ ⟨sb, 0, none⟩ (show sb < V.heap.size by omega)).trans q2, (World.cell?_alloc_lt _ _ ⟨b, off + x.val * 4, none⟩ (show b < V.heap.size by omega)).trans q3⟩
      clear HK K
      refine anyT_one' (i := 10) (by kernel_rfl) rfl (by rfl) (fun K hK => ?_)
      have HK := Lib.hid hK
      clear hK
      refine wp_append_own (.tmp 11) (.tmp 20) 43 rfl W4.heap.size 9 ii _ 1 16 Try.underlying43 HII0.out HII1.out HII2.out HII3.out rfl (by omega) _ _ _ rfl (HR.out.alloc (w := V.drew) _) ⟨V.heap.size, 0, none⟩ 1 1 [.string nm] rfl rfl (fun j u hj => by rw [Addr.add_lit, Nat.zero_add]; exact cell_blk (heap_new V.drew _) (by simpa using hj)) (by intro u hu; simp at hu; subst hu; rfl) (by unfold maxLen; omega) (by omega) (by show W4.heap.size ≤ (V.alloc _).heap.size; rw [World.size_alloc]; omega) ?_
      intro v' w1 hown' hgrow
      obtain ⟨pa, pc, rfl⟩ := own_slice hown'
      have HF := HST _ _ _ hown' hgrow
      have hlo := HLO.out (w.heap.size + 1) (by omega) _ _ hgrow
      have hl1 : w1.heap[w.heap.size + 1]? = some (.cells #[.slice va vp.length vc] 43 (0, 0)) := hlo.trans HV.out
      have c1 := cell_blk (i := 0) hl1 rfl
      have f1 := frozen_blk (i := 0) hl1
      have hlt1 := blk_lt hl1
      refine HK.out _ _ (fun _ => ?_) ?_
      · obtain ⟨q0, q1, q2, q3⟩ := S0.out
        exact ⟨(World.cell?_of_block (w := V) (HLO.out w.heap.size (by omega) _ _ hgrow)).trans q0, c1, (World.cell?_of_block (w := V) (HLO.out sb hsw _ _ hgrow)).trans q2, (World.cell?_of_block (w := V) (HLO.out b hbw _ _ hgrow)).trans q3⟩
      clear HK K hown' hgrow hlo hl1 HLO
      refine anyT_one' (i := 11) (by kernel_rfl) rfl (by rfl) (fun K hK => ?_)
      have HK := Lib.hid hK
      clear hK
      unfold Oper.wp
      go_simp
      refine HK.out _ _ (fun h => absurd rfl h) ?_
      clear HK K
      exact anyT_done (by kernel_rfl) HF.out _
    case aft =>
      rintro e a' W' hp
      cases e with
      | normal =>
        gi_wp2
        obtain ⟨p1, p2, p3⟩ := hp
        exact ⟨p3, p2, by show GI w _ sb M (vals (pre ++ [x])) W'; rw [HPE.out]; exact p1⟩
      | exit id => exact hp.elim
      | goto t => exact hp.elim
      | ret => exact hp.elim
      | panic ch => exact hp.elim
      | outgrown => exact hp.elim
  case done =>
    rintro D ys V hD hys hi hK
    rw [hys] at hi
    obtain ⟨v, hv, hrow, _⟩ := hi.l
    obtain ⟨va, vc, rfl⟩ := own_slice hrow
    have cb5 := hv.cell
    have hB1 := hv.lt
    have HI := Lib.hid hi
    have HR := Lib.hid hrow
    have HK := Lib.hid hK
    clear hi hv hrow hK
    gi_wp2
    exact leave_mark (J := fun (_ : Unit) V => V.ownsRow w.heap.size 9 1 (.slice va (hold M r.toList).length vc) (hold M r.toList).length (nmC M (hold M r.toList)) ∧ Below w.heap.size w V) (OwnFrom.and ((row_own _ _ _ _ _ _).from _) (ownFrom_below (Nat.le_refl _) (Nat.le_refl _))) ()
      (fun V h => by refine ⟨_, results_tmp rfl _ _ _, ?_⟩; exact ⟨_, rfl, h.1, h.2⟩) (by omega) HK.out ⟨own_base HR.out (by omega), HI.out.b⟩
  case stop =>
    rintro D c' pre V _ _ h _
    exact h.elim
set_option maxRecDepth 100000 in
set_option maxHeartbeats 4000000 in
theorem chain_any (w : World) (sb : Nat) (A : SA) (M : List Mb) (h : StI w sb A M) (hok : OkM M) (u : ByteArray) (hu : u.size ≤ 140737488351232) :
    Calls Try.prog 18 #[pt sb, .string u] w (NmP w M (chain M (placeL M u.toList))) := by
  obtain ⟨ma, mc, pb⟩ := A
  refine (callsIn_wide (n := 8)).1 ?_
  have hN := hok.few
  have hc := chR hok (placeL M u.toList) (place_range _).1 (place_range _).2
  have hcl := chain_len M (placeL M u.toList)
  have HSB := Lib.hid hok.sub
  have HC := Lib.hid hc
  have CP := fun W hb => Lib.hid (place_any W sb _ M (h.below (w' := W) hb) u hu)
  clear hok hc
  refine callsIn_of_wp_marks Try.func18 rfl trivial ?_ rfl
  simp only [Try.ntmps18, List.size_toArray, List.length_cons, List.length_nil, Nat.reduceAdd, Nat.reduceSub, Array.replicate_succ, Array.replicate_zero, List.push_toArray, List.append_toArray, List.nil_append, List.cons_append]
  have HS := Lib.hid h
  clear h
  obtain ⟨W2, hW2⟩ : ∃ W2, W2 = ((w.alloc (.cells #[pt sb] 31)).alloc (.cells #[.slice none 0 0] 43)) := ⟨_, rfl⟩
  have hal2 : W2 = [Obj.cells #[pt sb] 31, Obj.cells #[.slice none 0 0] 43].foldl World.alloc w := hW2
  have hs2 : W2.heap.size = w.heap.size + 2 := by rw [hal2, allocs_size]; rfl
  have hb02 : Below w.heap.size w W2 := by rw [hal2]; exact allocs_below _ _ (Nat.le_refl _)
  have b0 : W2.heap[w.heap.size]? = some (.cells #[pt sb] 31 (0, 0)) := by rw [hal2]; exact allocs_at _ w 0 (by simp)
  have b1 : W2.heap[w.heap.size + 1]? = some (.cells #[.slice none 0 0] 43 (0, 0)) := by rw [hal2]; exact allocs_at _ w 1 (by simp)
  have CP1 := Lib.hid (((CP W2.drew (below_draws hb02 1)).out).mono (fun e w' (h : e = .returned (.int .i64 (placeL M u.toList)) ∧ W2.drew = w') => show e = .returned (.int .i64 (placeL M u.toList)) ∧ w' = W2.drew from ⟨h.1, h.2.symm⟩))
  have cx0 : W2.drew.cell? ⟨w.heap.size, 0, none⟩ = some (pt sb) := cell_blk (i := 0) b0 rfl
  have hlx : w.heap.size < W2.drew.heap.size := blk_lt b0
  clear CP hal2
  gi_upto_region 2 with fail
  show Code.wpIn _ _ _ _ _ _ ((w.alloc (.cells #[pt sb] 31)).alloc (.cells #[.slice none 0 0] 43))
  rw [← hW2]
  clear hW2
  refine wpIn_wide.2 ?_
  refine wp_region_still_tail 4 mixed (by kernel_rfl) ?_
  simp only [List.take_succ_cons, List.take_zero, List.drop_succ_cons, List.drop_zero]
  iterate 3 still_step
  still_call CP1.out
  refine wpStill_nil ?_
  go_wp2_with (go_at_call 35; refine (callsIn_wide (n := 0)).1 ((chain_mk _ sb _ _).mono ?_); rintro e w' ⟨rfl, rfl⟩)
  obtain ⟨W4, hW4⟩ : ∃ W4, W4 = ((W2.alloc (.cells #[pt sb] 31)).alloc (.cells #[.int .i64 (placeL M u.toList)] 3)).drew := ⟨_, rfl⟩
  have hal : W4 = ([Obj.cells #[pt sb] 31, Obj.cells #[.int .i64 (placeL M u.toList)] 3].foldl World.alloc W2).drew := hW4
  have hs4 : W4.heap.size = w.heap.size + 4 := by rw [hal]; show (List.foldl World.alloc W2 _).heap.size = _; rw [allocs_size]; show W2.heap.size + 2 = _; omega
  have hb24 : Below W2.heap.size W2 W4 := by rw [hal]; exact below_draws (allocs_below _ W2 (Nat.le_refl W2.heap.size)) 1
  have hb4 : Below w.heap.size w W4 := hb02.trans (hb24.mono hb02.size)
  have a0 : W4.heap[w.heap.size]? = some (.cells #[pt sb] 31 (0, 0)) := (hb24.block _ (by omega)).trans b0
  have a1 : W4.heap[w.heap.size + 1]? = some (.cells #[.slice none 0 0] 43 (0, 0)) := (hb24.block _ (by omega)).trans b1
  have a2 : W4.heap[w.heap.size + 2]? = some (.cells #[pt sb] 31 (0, 0)) := by rw [hal, ← hs2]; exact allocs_at _ W2 0 (by simp)
  have a3 : W4.heap[w.heap.size + 3]? = some (.cells #[.int .i64 (placeL M u.toList)] 3 (0, 0)) := by rw [hal, show w.heap.size + 3 = W2.heap.size + 1 by omega]; exact allocs_at _ W2 1 (by simp)
  show Code.wpIn _ _ _ _ _ _ ((W2.alloc (.cells #[pt sb] 31)).alloc (.cells #[.int .i64 (placeL M u.toList)] 3)).drew
  rw [← hW4]
  clear hW4 hal b0 b1
  gi_wp2_with fail
  refine wpIn_rangeFunc_ownH (α := Fin M.length) rfl (by omega) (gf := 50) (lb := #[pt (w.heap.size + 3), pt (w.heap.size + 2)]) rfl trivial (enters_of Try.func50 (by kernel_rfl) rfl)
    (encs := fun x => #[iv x.val]) (Kp := Kps W4.heap.size (fun q => q = w.heap.size + 1)) (S := fun ys => vals ys = chain M (placeL M u.toList)) (Sp := fun ys => vals ys <+: chain M (placeL M u.toList)) (N := (chain M (placeL M u.toList)).length) (w0 := W4)
    ?seq Kps.trans ?kb (Below.refl _ _) (fun _ => rfl)
    (fun pre V => GI w W4.heap.size sb M (vals pre) V) (fun _ _ _ => False)
    ?own (fun _ _ _ _ _ hs _ _ => hs) ?start (fun x a' _ => HB 25 w.heap.size x.val a') (fun _ _ _ _ _ _ hs _ _ => hs) ?assign ?body ?done ?stop
  case seq => exact chain_seq HS.out _ HC.out hcl HSB.out 7 (by omega) (w.heap.size + 2) hb4 W4.heap.size (fun q => q = w.heap.size + 1) (fun q hq => by omega) a2 a3 (by omega) (by omega) (by omega)
  case kb => exact Kps.put (Nat.le_refl _)
  case own => exact GI.own (by omega)
  case start => exact ⟨⟨_, a1, World.ownsRow_nil _ _ _ _, trivial⟩, a0, hb4, Nat.le_refl _⟩
  case assign =>
    rintro lp pre x V K hi hK
    gi_wp2
    exact hK _ _ (KeepsFrom.refl _ _) (Kps.refl _ _ _) hi ⟨rfl, rfl, rfl, rfl, rfl⟩
  case body =>
    rintro lp pre x ⟨tm, df⟩ V _ _ hi hx hlen
    obtain ⟨y0, y1, y2, y3, y4, y5, y6, y7, y8, y9, y10, y11, y12, y13, y14, y15, y16, y17, y18, y19, y20, y21, y22, y23, y24, rfl⟩ := arr25 hx.z
    obtain rfl : y2 = _ := hx.s2
    obtain rfl : y5 = _ := hx.s5
    obtain rfl : y6 = _ := hx.s6
    obtain rfl : df = _ := hx.d
    have hpl : (vals pre).length ≤ 40 := by
      rw [List.length_map]
      have h1 : (chain M (placeL M u.toList)).length ≤ M.length := hcl
      omega
    have hpe : vals (pre ++ [x]) = vals pre ++ [x.val] := by simp
    have HPE := Lib.hid hpe
    clear hx hlen hpe
    have hxl := x.isLt
    obtain ⟨v, hv, hrow, _⟩ := hi.l
    obtain ⟨va, vc, rfl⟩ := own_slice hrow
    obtain ⟨b, off, hA, hb, n0, _, _, _⟩ := HS.out.at_ hxl
    obtain rfl : ma = some ⟨b, off, none⟩ := hA
    have c0 : w.cell? ⟨sb, 0, none⟩ = some (.slice (some ⟨b, off, none⟩) M.length mc) := HS.out.c0
    rw [← hi.b.cell (p := ⟨sb, 0, none⟩) HS.out.lt] at c0
    rw [← hi.b.cell (p := ⟨b, off + x.val * 4, none⟩) hb] at n0
    have cb2 := hi.s.cell
    have cb5 := hv.cell
    have fb5 := hv.frozen
    have hB1 := hv.lt
    have hk0 : (0 : Int) ≤ (x.val : Int) := Int.natCast_nonneg _
    have hk1 : (x.val : Int) < (M.length : Int) := by omega
    have hsl := HS.out.lt
    have HI := Lib.hid hi
    have HV := Lib.hid hv
    have HR := Lib.hid hrow
    obtain ⟨ii, hii0, hii1, hii2, hii3⟩ := info_parts info_st
    have HII0 := Lib.hid hii0
    have HII1 := Lib.hid hii1
    have HII2 := Lib.hid hii2
    have HII3 := Lib.hid hii3
    have HST := fun v' w1 tmp (e : w1.ownsRow W4.heap.size 9 1 v' ((vals pre).length + 1) (nmC M (vals pre) ++ [.string M[x.val]!.name])) (g : (V.drew.alloc tmp).grownBy w1 (Value.slice va (vals pre).length vc).ownBlock) => Lib.hid (HI.out.step (by omega) HV.out HR.out e g)
    have HLO := Lib.hid (fun k (hk : k < W4.heap.size) tmp w1 (g : (V.drew.alloc tmp).grownBy w1 (Value.slice va (vals pre).length vc).ownBlock) => HI.out.low HR.out g k hk)
    have hn4 := hi.n
    have S0 : Hid (V.drew.cell? ⟨w.heap.size, 0, none⟩ = some (pt sb) ∧ V.drew.cell? ⟨w.heap.size + 1, 0, none⟩ = some (.slice va (vals pre).length vc) ∧ V.drew.cell? ⟨sb, 0, none⟩ = some (.slice (some ⟨b, off, none⟩) M.length mc) ∧ V.drew.cell? ⟨b, off + x.val * 4, none⟩ = some (.string M[x.val]!.name)) := Lib.hid ⟨cb2, cb5, c0, n0⟩
    have hbw : b < W4.heap.size := by omega
    have hsw : sb < W4.heap.size := by omega
    clear hi hv hrow hii0 hii1 hii2 hii3 HS cb2 cb5 c0 n0
    generalize M[x.val]!.name = nm at *
    generalize vals pre = vp at *
    gi_upto_region 4 with fail
    refine wpIn_mono (Q := Exit.then (fun _ W' => GI w W4.heap.size sb M (vp ++ [x.val]) W' ∧ Kps W4.heap.size (fun q => q = w.heap.size + 1) V W' ∧ KeepsFrom W4.heap.size V W') (fun _ _ _ => False)) ?reg ?aft
    case reg =>
      refine wpIn_region_any mixed (any_round (by kernel_rfl) _ _ _ _ (any_of_T (S := fun W => W.cell? ⟨w.heap.size, 0, none⟩ = some (pt sb) ∧ W.cell? ⟨w.heap.size + 1, 0, none⟩ = some (.slice va vp.length vc) ∧ W.cell? ⟨sb, 0, none⟩ = some (.slice (some ⟨b, off, none⟩) M.length mc) ∧ W.cell? ⟨b, off + x.val * 4, none⟩ = some (.string nm)) (z := 11) _ _ _ _ ?_))
      change wpAnyT _ _ _ _ _ _ _ _ _ V.drew
      refine anyT_take (i := 0) 0 [] (v := ?_) rfl (by kernel_rfl) (by kernel_rfl) (by kernel_rfl) (by kernel_rfl) (fun _ _ _ h => h) S0.out (by rfl) ?_ ?_
      rotate_left
      · intro W9 hSw
        obtain ⟨q0, q1, q2, q3⟩ := hSw
        go_simp
        try with_reducible rfl
      simp only [Act.put, List.setIfInBounds_toArray]
      try simp only [List.set_cons_zero, List.set_cons_succ]
      try simp only [List.getElem_toArray]
      repeat (first | simp only [List.getElem_cons_zero] | simp only [List.getElem_cons_succ])
      refine anyT_take (i := 1) 1 [] (v := ?_) rfl (by kernel_rfl) (by kernel_rfl) (by kernel_rfl) (by kernel_rfl) (fun _ _ _ h => h) S0.out (by rfl) ?_ ?_
      rotate_left
      · intro W9 hSw
        obtain ⟨q0, q1, q2, q3⟩ := hSw
        go_simp
        try with_reducible rfl
      simp only [Act.put, List.setIfInBounds_toArray]
      try simp only [List.set_cons_zero, List.set_cons_succ]
      try simp only [List.getElem_toArray]
      repeat (first | simp only [List.getElem_cons_zero] | simp only [List.getElem_cons_succ])
      refine anyT_take (i := 2) 2 [] (v := ?_) rfl (by kernel_rfl) (by kernel_rfl) (by kernel_rfl) (by kernel_rfl) (fun _ _ _ h => h) S0.out (by rfl) ?_ ?_
      rotate_left
      · intro W9 hSw
        obtain ⟨q0, q1, q2, q3⟩ := hSw
        go_simp
        try with_reducible rfl
      simp only [Act.put, List.setIfInBounds_toArray]
      try simp only [List.set_cons_zero, List.set_cons_succ]
      try simp only [List.getElem_toArray]
      repeat (first | simp only [List.getElem_cons_zero] | simp only [List.getElem_cons_succ])
      refine anyT_take (i := 3) 3 [] (v := ?_) rfl (by kernel_rfl) (by kernel_rfl) (by kernel_rfl) (by kernel_rfl) (fun _ _ _ h => h) S0.out (by rfl) ?_ ?_
      rotate_left
      · intro W9 hSw
        obtain ⟨q0, q1, q2, q3⟩ := hSw
        go_simp
        try with_reducible rfl
      simp only [Act.put, List.setIfInBounds_toArray]
      try simp only [List.set_cons_zero, List.set_cons_succ]
      try simp only [List.getElem_toArray]
      repeat (first | simp only [List.getElem_cons_zero] | simp only [List.getElem_cons_succ])
      refine anyT_take (i := 4) 4 [] (v := ?_) rfl (by kernel_rfl) (by kernel_rfl) (by kernel_rfl) (by kernel_rfl) (fun _ _ _ h => h) S0.out (by rfl) ?_ ?_
      rotate_left
      · intro W9 hSw
        obtain ⟨q0, q1, q2, q3⟩ := hSw
        go_simp
        try with_reducible rfl
      simp only [Act.put, List.setIfInBounds_toArray]
      try simp only [List.set_cons_zero, List.set_cons_succ]
      try simp only [List.getElem_toArray]
      repeat (first | simp only [List.getElem_cons_zero] | simp only [List.getElem_cons_succ])
      refine anyT_take (i := 5) 5 [] (v := ?_) rfl (by kernel_rfl) (by kernel_rfl) (by kernel_rfl) (by kernel_rfl) (fun _ _ _ h => h) S0.out (by rfl) ?_ ?_
      rotate_left
      · intro W9 hSw
        obtain ⟨q0, q1, q2, q3⟩ := hSw
        go_simp
        try with_reducible rfl
      simp only [Act.put, List.setIfInBounds_toArray]
      try simp only [List.set_cons_zero, List.set_cons_succ]
      try simp only [List.getElem_toArray]
      repeat (first | simp only [List.getElem_cons_zero] | simp only [List.getElem_cons_succ])
      refine anyT_take (i := 6) 6 [] (v := ?_) rfl (by kernel_rfl) (by kernel_rfl) (by kernel_rfl) (by kernel_rfl) (fun _ _ _ h => h) S0.out (by rfl) ?_ ?_
      rotate_left
      · intro W9 hSw
        obtain ⟨q0, q1, q2, q3⟩ := hSw
        go_simp
        try with_reducible rfl
      simp only [Act.put, List.setIfInBounds_toArray]
      try simp only [List.set_cons_zero, List.set_cons_succ]
      try simp only [List.getElem_toArray]
      repeat (first | simp only [List.getElem_cons_zero] | simp only [List.getElem_cons_succ])
      refine anyT_take (i := 7) 7 [] (v := ?_) rfl (by kernel_rfl) (by kernel_rfl) (by kernel_rfl) (by kernel_rfl) (fun _ _ _ h => h) S0.out (by rfl) ?_ ?_
      rotate_left
      · intro W9 hSw
        obtain ⟨q0, q1, q2, q3⟩ := hSw
        go_simp
        try with_reducible rfl
      simp only [Act.put, List.setIfInBounds_toArray]
      try simp only [List.set_cons_zero, List.set_cons_succ]
      try simp only [List.getElem_toArray]
      repeat (first | simp only [List.getElem_cons_zero] | simp only [List.getElem_cons_succ])
      refine anyT_take (i := 8) 8 [] (v := ?_) rfl (by kernel_rfl) (by kernel_rfl) (by kernel_rfl) (by kernel_rfl) (fun _ _ _ h => h) S0.out (by rfl) ?_ ?_
      rotate_left
      · intro W9 hSw
        obtain ⟨q0, q1, q2, q3⟩ := hSw
        go_simp
        try with_reducible rfl
      simp only [Act.put, List.setIfInBounds_toArray]
      try simp only [List.set_cons_zero, List.set_cons_succ]
      try simp only [List.getElem_toArray]
      repeat (first | simp only [List.getElem_cons_zero] | simp only [List.getElem_cons_succ])
      refine anyT_one' (i := 9) (by kernel_rfl) rfl (by rfl) (fun K hK => ?_)
      have HK := Lib.hid hK
      clear hK
      unfold Oper.wp
      go_simp
      refine HK.out _ _ (fun _ => ?_) ?_
      · obtain ⟨q0, q1, q2, q3⟩ := S0.out
        exact ⟨(World.cell?_alloc_lt _ _ ⟨w.heap.size, 0, none⟩ (show w.heap.size < V.heap.size by omega)).trans q0, (World.cell?_alloc_lt _ _ ⟨w.heap.size + 1, 0, none⟩ (show w.heap.size + 1 < V.heap.size by omega)).trans q1, (World.cell?_alloc_lt _ _ ⟨sb, 0, none⟩ (show sb < V.heap.size by omega)).trans q2, (World.cell?_alloc_lt _ _ ⟨b, off + x.val * 4, none⟩ (show b < V.heap.size by omega)).trans q3⟩
      clear HK K
      refine anyT_one' (i := 10) (by kernel_rfl) rfl (by rfl) (fun K hK => ?_)
      have HK := Lib.hid hK
      clear hK
      refine wp_append_own (.tmp 13) (.tmp 22) 43 rfl W4.heap.size 9 ii _ 1 16 Try.underlying43 HII0.out HII1.out HII2.out HII3.out rfl (by omega) _ _ _ rfl (HR.out.alloc (w := V.drew) _) ⟨V.heap.size, 0, none⟩ 1 1 [.string nm] rfl rfl (fun j u hj => by rw [Addr.add_lit, Nat.zero_add]; exact cell_blk (heap_new V.drew _) (by simpa using hj)) (by intro u hu; simp at hu; subst hu; rfl) (by unfold maxLen; omega) (by omega) (by show W4.heap.size ≤ (V.alloc _).heap.size; rw [World.size_alloc]; omega) ?_
      intro v' w1 hown' hgrow
      obtain ⟨pa, pc, rfl⟩ := own_slice hown'
      have HF := HST _ _ _ hown' hgrow
      have hlo := HLO.out (w.heap.size + 1) (by omega) _ _ hgrow
      have hl1 : w1.heap[w.heap.size + 1]? = some (.cells #[.slice va vp.length vc] 43 (0, 0)) := hlo.trans HV.out
      have c1 := cell_blk (i := 0) hl1 rfl
      have f1 := frozen_blk (i := 0) hl1
      have hlt1 := blk_lt hl1
      refine HK.out _ _ (fun _ => ?_) ?_
      · obtain ⟨q0, q1, q2, q3⟩ := S0.out
        exact ⟨(World.cell?_of_block (w := V) (HLO.out w.heap.size (by omega) _ _ hgrow)).trans q0, c1, (World.cell?_of_block (w := V) (HLO.out sb hsw _ _ hgrow)).trans q2, (World.cell?_of_block (w := V) (HLO.out b hbw _ _ hgrow)).trans q3⟩
      clear HK K hown' hgrow hlo hl1 HLO
      refine anyT_one' (i := 11) (by kernel_rfl) rfl (by rfl) (fun K hK => ?_)
      have HK := Lib.hid hK
      clear hK
      unfold Oper.wp
      go_simp
      refine HK.out _ _ (fun h => absurd rfl h) ?_
      clear HK K
      exact anyT_done (by kernel_rfl) HF.out _
    case aft =>
      rintro e a' W' hp
      cases e with
      | normal =>
        gi_wp2
        obtain ⟨p1, p2, p3⟩ := hp
        exact ⟨p3, p2, by show GI w _ sb M (vals (pre ++ [x])) W'; rw [HPE.out]; exact p1⟩
      | exit id => exact hp.elim
      | goto t => exact hp.elim
      | ret => exact hp.elim
      | panic ch => exact hp.elim
      | outgrown => exact hp.elim
  case done =>
    rintro D ys V hD hys hi hK
    rw [hys] at hi
    obtain ⟨v, hv, hrow, _⟩ := hi.l
    obtain ⟨va, vc, rfl⟩ := own_slice hrow
    have cb5 := hv.cell
    have hB1 := hv.lt
    have HI := Lib.hid hi
    have HR := Lib.hid hrow
    have HK := Lib.hid hK
    clear hi hv hrow hK
    gi_wp2
    exact leave_mark (J := fun (_ : Unit) V => V.ownsRow w.heap.size 9 1 (.slice va (chain M (placeL M u.toList)).length vc) (chain M (placeL M u.toList)).length (nmC M (chain M (placeL M u.toList))) ∧ Below w.heap.size w V) (OwnFrom.and ((row_own _ _ _ _ _ _).from _) (ownFrom_below (Nat.le_refl _) (Nat.le_refl _))) ()
      (fun V h => by refine ⟨_, results_tmp rfl _ _ _, ?_⟩; exact ⟨_, rfl, h.1, h.2⟩) (by omega) HK.out ⟨own_base HR.out (by omega), HI.out.b⟩
  case stop =>
    rintro D c' pre V _ _ h _
    exact h.elim
-- BEHIND
end Go.Proofs.Ytahhhhacoigpmaa.SF
