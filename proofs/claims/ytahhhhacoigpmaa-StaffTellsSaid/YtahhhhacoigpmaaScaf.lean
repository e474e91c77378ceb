/-
  Contracts of package staff: For, Next.
-/
import Derived.Test.YtahhhhacoigpmaaScae
namespace Go.Proofs.Ytahhhhacoigpmaa.SF
open Go.RowKit Go.Shelf Go.Proofs.Ytahhhhacoigpmaa.B
attribute [local go_sem] Oper.semAt_some
theorem forL_none {M : List Mb} {k : Int} (h : ∀ i ∈ chain M k, M[i]!.away = true) : forL M k = ByteArray.empty := by
  unfold forL
  rw [List.find?_eq_none.2 (fun i hi => by show ¬ (!M[i]!.away) = true; rw [h i hi]; decide)]
theorem forL_some {M : List Mb} {k : Int} {p : List Nat} {x : Nat} (h : (p ++ [x]) <+: chain M k) (hp : ∀ i ∈ p, M[i]!.away = true) (hx : M[x]!.away = false) : forL M k = M[x]!.name := by
  obtain ⟨r, hr⟩ := h
  unfold forL
  rw [← hr, List.append_assoc, List.find?_append, List.find?_eq_none.2 (fun i hi => by show ¬ (!M[i]!.away) = true; rw [hp i hi]; decide), Option.none_or, List.singleton_append, List.find?_cons_of_pos (by show (!M[x]!.away) = true; rw [hx]; rfl)]
def lastN (M : List Mb) (l : List Nat) : ByteArray := match l.getLast? with
  | some x => M[x]!.name
  | none => ByteArray.empty
theorem lastN_snoc (M : List Mb) (l : List Nat) (x : Nat) : lastN M (l ++ [x]) = M[x]!.name := by unfold lastN; rw [List.getLast?_concat]
theorem nextL_done {M : List Mb} {k s : Int} (h : (chain M k).length ≤ s.toNat) : nextL M k s = lastN M (chain M k) := by
  unfold nextL lastN
  rw [List.getLast?_eq_getElem?, Nat.min_eq_right (by omega)]
  cases (chain M k)[(chain M k).length - 1]? <;> rfl
theorem nextL_stop {M : List Mb} {k s : Int} {p : List Nat} {x : Nat} (h : (p ++ [x]) <+: chain M k) (hp : p.length = s.toNat) : nextL M k s = M[x]!.name := by
  have hl := h.length_le
  rw [List.length_append, List.length_singleton] at hl
  have e : (chain M k)[s.toNat]? = some x := by
    obtain ⟨r, hr⟩ := h
    rw [← hr, List.append_assoc, List.getElem?_append_right (by omega), hp, Nat.sub_self]; rfl
  unfold nextL
  rw [Nat.min_eq_left (by omega), e]
/-- A box that a call keeps, of what it says. -/
structure FI (w : World) (n₀ sb : Nat) (M : List Mb) (l : List Nat) (V : World) : Prop where
  a : ∀ i ∈ l, M[i]!.away = true
  s : Boxed V w.heap.size 31 (pt sb)
  r : Boxed V (w.heap.size + 1) 9 (.string ⟨#[]⟩)
  b : Below w.heap.size w V
  n : n₀ ≤ V.heap.size
theorem own_pure {β : Type} {B : Nat} (p : β → Prop) : OwnFrom B (fun s (_ : World) => p s) := fun _ _ _ _ hs _ _ => hs
theorem own_size {β : Type} {B n₀ : Nat} : OwnFrom B (fun (_ : β) V => n₀ ≤ V.heap.size) := fun _ _ _ _ hs hg _ => Nat.le_trans hs hg.size
theorem FI.own {w : World} {n₀ sb N : Nat} {M : List Mb} {B : Nat} (hB : w.heap.size ≤ B) : OwnFrom B (fun (pre : List (Fin N)) V => FI w n₀ sb M (vals pre) V) := by
  have h1 : OwnFrom B (fun (pre : List (Fin N)) V => (∀ i ∈ vals pre, M[i]!.away = true) ∧ Boxed V w.heap.size 31 (pt sb) ∧ Boxed V (w.heap.size + 1) 9 (.string ⟨#[]⟩) ∧ Below w.heap.size w V ∧ n₀ ≤ V.heap.size) :=
    OwnFrom.and (own_pure (fun pre : List (Fin N) => ∀ i ∈ vals pre, M[i]!.away = true)) (OwnFrom.and ((boxed_own w.heap.size 31 (fun _ : List (Fin N) => pt sb)).from _) (OwnFrom.and ((boxed_own (w.heap.size + 1) 9 (fun _ : List (Fin N) => .string ⟨#[]⟩)).from _) (OwnFrom.and (ownFrom_below (Nat.le_refl _) hB) own_size)))
  intro s X Y row hs hg hr
  obtain ⟨a, b, c, d, e⟩ := h1 s X Y row ⟨hs.a, hs.s, hs.r, hs.b, hs.n⟩ hg hr
  exact ⟨a, b, c, d, e⟩
/-- Left by a return: the one who is here. -/
def FX (w : World) (M : List Mb) (l : List Nat) (V : World) : Prop :=
  (∃ p x, l = p ++ [x] ∧ (∀ i ∈ p, M[i]!.away = true) ∧ M[x]!.away = false ∧ Boxed V (w.heap.size + 1) 9 (.string M[x]!.name)) ∧ Below w.heap.size w V
theorem FX.own {w : World} {N : Nat} {M : List Mb} {B : Nat} (hB : w.heap.size ≤ B) : OwnFrom B (fun (pre : List (Fin N)) V => FX w M (vals pre) V) := fun s X Y row hs hg hr => by
  obtain ⟨⟨p, x, h1, h2, h3, h4⟩, hb⟩ := hs
  exact ⟨⟨p, x, h1, h2, h3, (boxed_own (β := Unit) (w.heap.size + 1) 9 (fun _ => .string M[x]!.name)).from B () X Y row h4 hg hr⟩, ownFrom_below (β := Unit) (Nat.le_refl _) hB () X Y row hb hg hr⟩
/-- Of Next. -/
structure NI (w : World) (n₀ sb : Nat) (M : List Mb) (st : Int) (l : List Nat) (V : World) : Prop where
  a : l.length ≤ st.toNat
  s : Boxed V w.heap.size 31 (pt sb)
  k : Boxed V (w.heap.size + 1) 3 (.int .i64 (st - l.length))
  r : Boxed V (w.heap.size + 2) 9 (.string (lastN M l))
  b : Below w.heap.size w V
  n : n₀ ≤ V.heap.size
theorem NI.own {w : World} {n₀ sb N : Nat} {M : List Mb} {st : Int} {B : Nat} (hB : w.heap.size ≤ B) : OwnFrom B (fun (pre : List (Fin N)) V => NI w n₀ sb M st (vals pre) V) := by
  have h1 : OwnFrom B (fun (pre : List (Fin N)) V => ((vals pre).length ≤ st.toNat) ∧ Boxed V w.heap.size 31 (pt sb) ∧ Boxed V (w.heap.size + 1) 3 (.int .i64 (st - (vals pre).length)) ∧ Boxed V (w.heap.size + 2) 9 (.string (lastN M (vals pre))) ∧ Below w.heap.size w V ∧ n₀ ≤ V.heap.size) :=
    OwnFrom.and (own_pure (fun pre : List (Fin N) => (vals pre).length ≤ st.toNat)) (OwnFrom.and ((boxed_own w.heap.size 31 (fun _ : List (Fin N) => pt sb)).from _) (OwnFrom.and ((boxed_own (w.heap.size + 1) 3 (fun pre : List (Fin N) => .int .i64 (st - (vals pre).length))).from _) (OwnFrom.and ((boxed_own (w.heap.size + 2) 9 (fun pre : List (Fin N) => .string (lastN M (vals pre)))).from _) (OwnFrom.and (ownFrom_below (Nat.le_refl _) hB) own_size))))
  intro s X Y row hs hg hr
  obtain ⟨a, b, c, d, e, f⟩ := h1 s X Y row ⟨hs.a, hs.s, hs.k, hs.r, hs.b, hs.n⟩ hg hr
  exact ⟨a, b, c, d, e, f⟩
def NX (w : World) (M : List Mb) (st : Int) (l : List Nat) (V : World) : Prop :=
  (∃ p x, l = p ++ [x] ∧ p.length = st.toNat ∧ Boxed V (w.heap.size + 2) 9 (.string M[x]!.name)) ∧ Below w.heap.size w V
theorem NX.own {w : World} {N : Nat} {M : List Mb} {st : Int} {B : Nat} (hB : w.heap.size ≤ B) : OwnFrom B (fun (pre : List (Fin N)) V => NX w M st (vals pre) V) := fun s X Y row hs hg hr => by
  obtain ⟨⟨p, x, h1, h2, h4⟩, hb⟩ := hs
  exact ⟨⟨p, x, h1, h2, (boxed_own (β := Unit) (w.heap.size + 2) 9 (fun _ => .string M[x]!.name)).from B () X Y row h4 hg hr⟩, ownFrom_below (β := Unit) (Nat.le_refl _) hB () X Y row hb hg hr⟩
/-- The frames in a round. -/
structure FB (B x : Nat) (a : Act) : Prop where
  z : a.tmps.size = 29
  s2 : a.tmps.getD 2 undef = pt B
  s4 : a.tmps.getD 4 undef = pt (B + 1)
  s5 : a.tmps.getD 5 undef = iv x
  d : a.defers = []
structure NB (B x : Nat) (a : Act) : Prop where
  z : a.tmps.size = 28
  s3 : a.tmps.getD 3 undef = pt B
  s5 : a.tmps.getD 5 undef = pt (B + 1)
  s7 : a.tmps.getD 7 undef = pt (B + 2)
  s8 : a.tmps.getD 8 undef = iv x
  d : a.defers = []
set_option maxRecDepth 100000 in
set_option maxHeartbeats 4000000 in
theorem for_any (w : World) (sb : Nat) (A : SA) (M : List Mb) (h : StI w sb A M) (hok : OkM M) (u : ByteArray) (hu : u.size ≤ 140737488351232) :
    Calls Try.prog 20 #[pt sb, .string u] w fun e w' => e = .returned (.string (forL M (placeL M u.toList))) ∧ Below w.heap.size w w' := by
  obtain ⟨ma, mc, pb⟩ := A
  refine (callsIn_wide (n := 8)).1 ?_
  have hN := hok.few
  have hc := chR hok (placeL M u.toList) (place_range _).1 (place_range _).2
  have hcl := chain_len M (placeL M u.toList)
  have HSB := Lib.hid hok.sub
  have HC := Lib.hid hc
  have CP := fun W hb => Lib.hid (place_any W sb _ M (h.below (w' := W) hb) u hu)
  clear hok hc
  refine callsIn_of_wp_marks Try.func20 rfl trivial ?_ rfl
  simp only [Try.ntmps20, List.size_toArray, List.length_cons, List.length_nil, Nat.reduceAdd, Nat.reduceSub, Array.replicate_succ, Array.replicate_zero, List.push_toArray, List.append_toArray, List.nil_append, List.cons_append]
  have HS := Lib.hid h
  clear h
  obtain ⟨W2, hW2⟩ : ∃ W2, W2 = ((w.alloc (.cells #[pt sb] 31)).alloc (.cells #[.string ⟨#[]⟩] 9)) := ⟨_, rfl⟩
  have hal2 : W2 = [Obj.cells #[pt sb] 31, Obj.cells #[.string ⟨#[]⟩] 9].foldl World.alloc w := hW2
  have hs2 : W2.heap.size = w.heap.size + 2 := by rw [hal2, allocs_size]; rfl
  have hb02 : Below w.heap.size w W2 := by rw [hal2]; exact allocs_below _ _ (Nat.le_refl _)
  have b0 : W2.heap[w.heap.size + 0]? = some (.cells #[pt sb] 31 (0, 0)) := by rw [hal2]; exact allocs_at _ w 0 (by simp)
  have b1 : W2.heap[w.heap.size + 1]? = some (.cells #[.string ⟨#[]⟩] 9 (0, 0)) := by rw [hal2]; exact allocs_at _ w 1 (by simp)
  have CP1 := Lib.hid (((CP W2.drew (below_draws hb02 1)).out).mono (fun e w' (h : e = .returned (.int .i64 (placeL M u.toList)) ∧ W2.drew = w') => show e = .returned (.int .i64 (placeL M u.toList)) ∧ w' = W2.drew from ⟨h.1, h.2.symm⟩))
  have cx0 : W2.drew.cell? ⟨w.heap.size, 0, none⟩ = some (pt sb) := cell_blk (i := 0) b0 rfl
  have hlx : w.heap.size < W2.drew.heap.size := blk_lt b0
  clear CP hal2
  gi_upto_region 1 with fail
  show Code.wpIn _ _ _ _ _ _ ((w.alloc (.cells #[pt sb] 31)).alloc (.cells #[.string ⟨#[]⟩] 9))
  rw [← hW2]
  clear hW2
  refine wpIn_wide.2 ?_
  refine wp_region_still_tail 4 mixed (by kernel_rfl) ?_
  simp only [List.take_succ_cons, List.take_zero, List.drop_succ_cons, List.drop_zero]
  iterate 3 still_step
  still_call CP1.out
  refine wpStill_nil ?_
  go_wp2_with (go_at_call 35; refine (callsIn_wide (n := 0)).1 ((chain_mk _ sb _ _).mono ?_); rintro e w' ⟨rfl, rfl⟩)
  obtain ⟨W4, hW4⟩ : ∃ W4, W4 = ((W2.alloc (.cells #[pt sb] 31)).alloc (.cells #[.int .i64 (placeL M u.toList)] 3)).drew := ⟨_, rfl⟩
  have hal : W4 = ([Obj.cells #[pt sb] 31, Obj.cells #[.int .i64 (placeL M u.toList)] 3].foldl World.alloc W2).drew := hW4
  have hs4 : W4.heap.size = w.heap.size + 4 := by rw [hal]; show (List.foldl World.alloc W2 _).heap.size = _; rw [allocs_size]; show W2.heap.size + 2 = _; omega
  have hb24 : Below W2.heap.size W2 W4 := by rw [hal]; exact below_draws (allocs_below _ W2 (Nat.le_refl W2.heap.size)) 1
  have hb4 : Below w.heap.size w W4 := hb02.trans (hb24.mono hb02.size)
  have a0 : W4.heap[w.heap.size + 0]? = some (.cells #[pt sb] 31 (0, 0)) := (hb24.block _ (by omega)).trans b0
  have a1 : W4.heap[w.heap.size + 1]? = some (.cells #[.string ⟨#[]⟩] 9 (0, 0)) := (hb24.block _ (by omega)).trans b1
  have i0 : W4.heap[w.heap.size + 2]? = some (.cells #[pt sb] 31 (0, 0)) := by rw [hal, ← hs2]; exact allocs_at _ W2 0 (by simp)
  have i1 : W4.heap[w.heap.size + 3]? = some (.cells #[.int .i64 (placeL M u.toList)] 3 (0, 0)) := by rw [hal, show w.heap.size + 3 = W2.heap.size + 1 by omega]; exact allocs_at _ W2 1 (by simp)
  show Code.wpIn _ _ _ _ _ _ ((W2.alloc (.cells #[pt sb] 31)).alloc (.cells #[.int .i64 (placeL M u.toList)] 3)).drew
  rw [← hW4]
  clear hW4 hal b0 b1
  gi_wp2_with fail
  refine wpIn_rangeFunc_ownH (α := Fin M.length) rfl (by omega) (gf := 50) (lb := #[pt (w.heap.size + 3), pt (w.heap.size + 2)]) rfl trivial (enters_of Try.func50 (by kernel_rfl) rfl)
    (encs := fun x => #[iv x.val]) (Kp := Kps W4.heap.size (fun q => q = w.heap.size + 1)) (S := fun ys => vals ys = chain M (placeL M u.toList)) (Sp := fun ys => vals ys <+: chain M (placeL M u.toList)) (N := (chain M (placeL M u.toList)).length) (w0 := W4)
    ?seq Kps.trans ?kb (Below.refl _ _) (fun _ => rfl)
    (fun pre V => FI w W4.heap.size sb M (vals pre) V) (fun c pre V => c = .ret ∧ FX w M (vals pre) V)
    ?own ?ownx ?start (fun x a' _ => FB w.heap.size x.val a') (fun _ _ _ _ _ _ hs _ _ => hs) ?assign ?body ?done ?stop
  case seq => exact chain_seq HS.out _ HC.out hcl HSB.out 7 (by omega) (w.heap.size + 2) hb4 W4.heap.size (fun q => q = w.heap.size + 1) (fun q hq => by omega) i0 i1 (by omega) (by omega) (by omega)
  case kb => exact Kps.put (Nat.le_refl _)
  case own => exact FI.own (by omega)
  case ownx => exact fun c => OwnFrom.and (own_pure (fun _ => c = .ret)) (FX.own (by omega))
  case start => exact ⟨fun i hi => (by cases hi), a0, a1, hb4, Nat.le_refl _⟩
  case assign =>
    rintro lp pre x V K hi hK
    gi_wp2
    exact hK _ _ (KeepsFrom.refl _ _) (Kps.refl _ _ _) hi ⟨rfl, rfl, rfl, rfl, rfl⟩
  case body =>
    rintro lp pre x ⟨tm, df⟩ V _ _ hi hx hlen
    obtain ⟨y0, y1, y2, y3, y4, y5, y6, y7, y8, y9, y10, y11, y12, y13, y14, y15, y16, y17, y18, y19, y20, y21, y22, y23, y24, y25, y26, y27, y28, rfl⟩ := arr29 hx.z
    obtain rfl : y2 = _ := hx.s2
    obtain rfl : y4 = _ := hx.s4
    obtain rfl : y5 = _ := hx.s5
    obtain rfl : df = _ := hx.d
    have hpe : vals (pre ++ [x]) = vals pre ++ [x.val] := by simp
    have HPE := Lib.hid hpe
    clear hx hlen hpe
    have hxl := x.isLt
    obtain ⟨b, off, hA, hb, n0, _, _, n3⟩ := HS.out.at_ hxl
    obtain rfl : ma = some ⟨b, off, none⟩ := hA
    have c0 : w.cell? ⟨sb, 0, none⟩ = some (.slice (some ⟨b, off, none⟩) M.length mc) := HS.out.c0
    rw [← hi.b.cell (p := ⟨sb, 0, none⟩) HS.out.lt] at c0
    rw [← hi.b.cell (p := ⟨b, off + x.val * 4, none⟩) hb] at n0
    rw [← hi.b.cell (p := ⟨b, off + x.val * 4 + 3, none⟩) hb] at n3
    have cb2 := hi.s.cell
    have cb5 := hi.r.cell
    have fb5 := hi.r.frozen
    have hB1 := hi.r.lt
    have hk0 : (0 : Int) ≤ (x.val : Int) := Int.natCast_nonneg _
    have hk1 : (x.val : Int) < (M.length : Int) := by omega
    have hsl := HS.out.lt
    have HI := Lib.hid hi
    have hbV := hi.b.size
    clear hi HS
    generalize hnm : M[x.val]!.name = nm at *
    have HNM := Lib.hid hnm
    clear hnm
    cases hw : M[x.val]!.away with
    | true =>
      rw [hw] at n3
      gi_wp2_with fail
      refine ⟨KeepsFrom.refl _ _, Kps.refl _ _ _, ?_⟩
      show FI w W4.heap.size sb M (vals (pre ++ [x])) V
      rw [HPE.out]
      exact ⟨fun i hi => by rcases List.mem_append.1 hi with h | h; exact HI.out.a i h; rw [List.mem_singleton] at h; rw [h]; exact hw, HI.out.s, HI.out.r, HI.out.b, HI.out.n⟩
    | false =>
      rw [hw] at n3
      gi_wp2_with fail
      refine ⟨(KeepsOthers.setCell _ _ _).from _, rfl, ?_⟩
      show FX w M (vals (pre ++ [x])) _
      rw [HPE.out]
      exact ⟨⟨_, _, rfl, HI.out.a, hw, by rw [HNM.out]; exact HI.out.r.set _⟩, HI.out.b.setCell (p := ⟨w.heap.size + 1, 0, none⟩) (Nat.le_succ _) _⟩
  case done =>
    rintro D ys V hD hys hi hK
    rw [hys] at hi
    have cb5 := hi.r.cell
    have fb5 := hi.r.frozen
    have hB1 := hi.r.lt
    have HI := Lib.hid hi
    have HK := Lib.hid hK
    have HF := Lib.hid (forL_none hi.a)
    clear hi hK
    gi_wp2_with fail
    exact leave_mark (J := fun (_ : Unit) V => Boxed V (w.heap.size + 1) 9 (.string ⟨#[]⟩) ∧ Below w.heap.size w V) (OwnFrom.and ((boxed_own (w.heap.size + 1) 9 (fun _ => .string ⟨#[]⟩)).from _) (ownFrom_below (Nat.le_refl _) (Nat.le_refl _))) ()
      (fun V h => by
        have c := h.1.cell
        refine ⟨.string ⟨#[]⟩, by simp [results, Try.results20, go_sem, c], ?_⟩
        exact ⟨by rw [HF.out]; rfl, h.2⟩) (by omega) ((KeepsOthers.setCell V _ _).same D _ HK.out rfl) ⟨HI.out.r.set _, HI.out.b.setCell (p := ⟨w.heap.size + 1, 0, none⟩) (Nat.le_succ _) _⟩
  case stop =>
    rintro D c' pre V hD hpre ⟨rfl, hx⟩ hK
    obtain ⟨⟨p, x, h1, h2, h3, h4⟩, hbl⟩ := hx
    rw [h1] at hpre
    have HF := Lib.hid (forL_some hpre h2 h3)
    clear h1 h2 h3 hpre
    generalize M[x]!.name = nm at *
    gi_wp2_with fail
    exact leave_mark (J := fun (_ : Unit) V => Boxed V (w.heap.size + 1) 9 (.string nm) ∧ Below w.heap.size w V) (OwnFrom.and ((boxed_own (w.heap.size + 1) 9 (fun _ => .string nm)).from _) (ownFrom_below (Nat.le_refl _) (Nat.le_refl _))) ()
      (fun V h => by
        have c := h.1.cell
        refine ⟨.string nm, by simp [results, Try.results20, go_sem, c], ?_⟩
        exact ⟨by rw [HF.out], h.2⟩) (by omega) hK ⟨h4, hbl⟩
set_option maxRecDepth 100000 in
set_option maxHeartbeats 4000000 in
theorem next_any (w : World) (sb : Nat) (A : SA) (M : List Mb) (h : StI w sb A M) (hok : OkM M) (u : ByteArray) (hu : u.size ≤ 140737488351232) (s : Int) (hs1 : -9223372036854775808 ≤ s) (hs2 : s < 9223372036854775808) :
    Calls Try.prog 22 #[pt sb, .string u, .int .i64 s] w fun e w' => e = .returned (.string (nextL M (placeL M u.toList) s)) ∧ Below w.heap.size w w' := by
  obtain ⟨ma, mc, pb⟩ := A
  refine (callsIn_wide (n := 8)).1 ?_
  have hN := hok.few
  have hc := chR hok (placeL M u.toList) (place_range _).1 (place_range _).2
  have hcl := chain_len M (placeL M u.toList)
  have HSB := Lib.hid hok.sub
  have HC := Lib.hid hc
  have CP := fun W hb => Lib.hid (place_any W sb _ M (h.below (w' := W) hb) u hu)
  clear hok hc
  refine callsIn_of_wp_marks Try.func22 rfl trivial ?_ rfl
  simp only [Try.ntmps22, List.size_toArray, List.length_cons, List.length_nil, Nat.reduceAdd, Nat.reduceSub, Array.replicate_succ, Array.replicate_zero, List.push_toArray, List.append_toArray, List.nil_append, List.cons_append]
  have HS := Lib.hid h
  clear h
  obtain ⟨W2, hW2⟩ : ∃ W2, W2 = (((w.alloc (.cells #[pt sb] 31)).alloc (.cells #[.int .i64 s] 3)).alloc (.cells #[.string ⟨#[]⟩] 9)) := ⟨_, rfl⟩
  have hal2 : W2 = [Obj.cells #[pt sb] 31, Obj.cells #[.int .i64 s] 3, Obj.cells #[.string ⟨#[]⟩] 9].foldl World.alloc w := hW2
  have hs2 : W2.heap.size = w.heap.size + 3 := by rw [hal2, allocs_size]; rfl
  have hb02 : Below w.heap.size w W2 := by rw [hal2]; exact allocs_below _ _ (Nat.le_refl _)
  have b0 : W2.heap[w.heap.size + 0]? = some (.cells #[pt sb] 31 (0, 0)) := by rw [hal2]; exact allocs_at _ w 0 (by simp)
  have b1 : W2.heap[w.heap.size + 1]? = some (.cells #[.int .i64 s] 3 (0, 0)) := by rw [hal2]; exact allocs_at _ w 1 (by simp)
  have b2 : W2.heap[w.heap.size + 2]? = some (.cells #[.string ⟨#[]⟩] 9 (0, 0)) := by rw [hal2]; exact allocs_at _ w 2 (by simp)
  have CP1 := Lib.hid (((CP W2.drew (below_draws hb02 1)).out).mono (fun e w' (h : e = .returned (.int .i64 (placeL M u.toList)) ∧ W2.drew = w') => show e = .returned (.int .i64 (placeL M u.toList)) ∧ w' = W2.drew from ⟨h.1, h.2.symm⟩))
  have cx0 : W2.drew.cell? ⟨w.heap.size, 0, none⟩ = some (pt sb) := cell_blk (i := 0) b0 rfl
  have hlx : w.heap.size < W2.drew.heap.size := blk_lt b0
  clear CP hal2
  gi_upto_region 2 with fail
  show Code.wpIn _ _ _ _ _ _ (((w.alloc (.cells #[pt sb] 31)).alloc (.cells #[.int .i64 s] 3)).alloc (.cells #[.string ⟨#[]⟩] 9))
  rw [← hW2]
  clear hW2
  refine wpIn_wide.2 ?_
  refine wp_region_still_tail 4 mixed (by kernel_rfl) ?_
  simp only [List.take_succ_cons, List.take_zero, List.drop_succ_cons, List.drop_zero]
  iterate 3 still_step
  still_call CP1.out
  refine wpStill_nil ?_
  go_wp2_with (go_at_call 35; refine (callsIn_wide (n := 0)).1 ((chain_mk _ sb _ _).mono ?_); rintro e w' ⟨rfl, rfl⟩)
  obtain ⟨W4, hW4⟩ : ∃ W4, W4 = ((W2.alloc (.cells #[pt sb] 31)).alloc (.cells #[.int .i64 (placeL M u.toList)] 3)).drew := ⟨_, rfl⟩
  have hal : W4 = ([Obj.cells #[pt sb] 31, Obj.cells #[.int .i64 (placeL M u.toList)] 3].foldl World.alloc W2).drew := hW4
  have hs4 : W4.heap.size = w.heap.size + 5 := by rw [hal]; show (List.foldl World.alloc W2 _).heap.size = _; rw [allocs_size]; show W2.heap.size + 2 = _; omega
  have hb24 : Below W2.heap.size W2 W4 := by rw [hal]; exact below_draws (allocs_below _ W2 (Nat.le_refl W2.heap.size)) 1
  have hb4 : Below w.heap.size w W4 := hb02.trans (hb24.mono hb02.size)
  have a0 : W4.heap[w.heap.size + 0]? = some (.cells #[pt sb] 31 (0, 0)) := (hb24.block _ (by omega)).trans b0
  have a1 : W4.heap[w.heap.size + 1]? = some (.cells #[.int .i64 s] 3 (0, 0)) := (hb24.block _ (by omega)).trans b1
  have a2 : W4.heap[w.heap.size + 2]? = some (.cells #[.string ⟨#[]⟩] 9 (0, 0)) := (hb24.block _ (by omega)).trans b2
  have i0 : W4.heap[w.heap.size + 3]? = some (.cells #[pt sb] 31 (0, 0)) := by rw [hal, ← hs2]; exact allocs_at _ W2 0 (by simp)
  have i1 : W4.heap[w.heap.size + 4]? = some (.cells #[.int .i64 (placeL M u.toList)] 3 (0, 0)) := by rw [hal, show w.heap.size + 4 = W2.heap.size + 1 by omega]; exact allocs_at _ W2 1 (by simp)
  show Code.wpIn _ _ _ _ _ _ ((W2.alloc (.cells #[pt sb] 31)).alloc (.cells #[.int .i64 (placeL M u.toList)] 3)).drew
  rw [← hW4]
  clear hW4 hal b0 b1 b2
  gi_wp2_with fail
  refine wpIn_rangeFunc_ownH (α := Fin M.length) rfl (by omega) (gf := 50) (lb := #[pt (w.heap.size + 4), pt (w.heap.size + 3)]) rfl trivial (enters_of Try.func50 (by kernel_rfl) rfl)
    (encs := fun x => #[iv x.val]) (Kp := Kps W4.heap.size (fun q => q = w.heap.size + 1 ∨ q = w.heap.size + 2)) (S := fun ys => vals ys = chain M (placeL M u.toList)) (Sp := fun ys => vals ys <+: chain M (placeL M u.toList)) (N := (chain M (placeL M u.toList)).length) (w0 := W4)
    ?seq Kps.trans ?kb (Below.refl _ _) (fun _ => rfl)
    (fun pre V => NI w W4.heap.size sb M s (vals pre) V) (fun c pre V => c = .exit 0 ∧ NX w M s (vals pre) V)
    ?own ?ownx ?start (fun x a' _ => NB w.heap.size x.val a') (fun _ _ _ _ _ _ hs _ _ => hs) ?assign ?body ?done ?stop
  case seq => exact chain_seq HS.out _ HC.out hcl HSB.out 7 (by omega) (w.heap.size + 3) hb4 W4.heap.size (fun q => q = w.heap.size + 1 ∨ q = w.heap.size + 2) (fun q hq => by omega) i0 i1 (by omega) (by omega) (by omega)
  case kb => exact Kps.put (Nat.le_refl _)
  case own => exact NI.own (by omega)
  case ownx => exact fun c => OwnFrom.and (own_pure (fun _ => c = .exit 0)) (NX.own (by omega))
  case start => exact ⟨Nat.zero_le _, a0, by show W4.heap[w.heap.size + 1]? = some (.cells #[.int .i64 (s - ((0 : Nat) : Int))] 3 (0, 0)); rw [show s - ((0 : Nat) : Int) = s by omega]; exact a1, a2, hb4, Nat.le_refl _⟩
  case assign =>
    rintro lp pre x V K hi hK
    gi_wp2
    exact hK _ _ (KeepsFrom.refl _ _) (Kps.refl _ _ _) hi ⟨rfl, rfl, rfl, rfl, rfl, rfl⟩
  case body =>
    rintro lp pre x ⟨tm, df⟩ V _ _ hi hx hlen
    obtain ⟨y0, y1, y2, y3, y4, y5, y6, y7, y8, y9, y10, y11, y12, y13, y14, y15, y16, y17, y18, y19, y20, y21, y22, y23, y24, y25, y26, y27, rfl⟩ := arr28 hx.z
    obtain rfl : y3 = _ := hx.s3
    obtain rfl : y5 = _ := hx.s5
    obtain rfl : y7 = _ := hx.s7
    obtain rfl : y8 = _ := hx.s8
    obtain rfl : df = _ := hx.d
    have hpe : vals (pre ++ [x]) = vals pre ++ [x.val] := by simp
    have HPE := Lib.hid hpe
    have hpl : (vals pre).length ≤ 40 := by rw [List.length_map]; omega
    clear hx hlen hpe
    have hxl := x.isLt
    obtain ⟨b, off, hA, hb, n0, _, _, _⟩ := HS.out.at_ hxl
    obtain rfl : ma = some ⟨b, off, none⟩ := hA
    have c0 : w.cell? ⟨sb, 0, none⟩ = some (.slice (some ⟨b, off, none⟩) M.length mc) := HS.out.c0
    rw [← hi.b.cell (p := ⟨sb, 0, none⟩) HS.out.lt] at c0
    rw [← hi.b.cell (p := ⟨b, off + x.val * 4, none⟩) hb] at n0
    have cb2 := hi.s.cell
    have cb5 := hi.k.cell
    have fb5 := hi.k.frozen
    have cb7 := hi.r.cell
    have fb7 := hi.r.frozen
    have hB1 := hi.r.lt
    have hB0 := hi.k.lt
    have hk0 : (0 : Int) ≤ (x.val : Int) := Int.natCast_nonneg _
    have hk1 : (x.val : Int) < (M.length : Int) := by omega
    have hsl := HS.out.lt
    have hla := hi.a
    have HI := Lib.hid hi
    have hbV := hi.b.size
    have HNM : Hid (lastN M (vals pre ++ [x.val]) = M[x.val]!.name) := Lib.hid (lastN_snoc _ _ _)
    clear hi HS
    have hv1 : Boxed (V.setCell ⟨w.heap.size + 2, 0, none⟩ (.string M[x.val]!.name)) (w.heap.size + 1) 3 (.int .i64 (s - (vals pre).length)) := (blk_other (by omega)).trans HI.out.k
    have HV1 := Lib.hid hv1
    have HB1 := Lib.hid (HI.out.b.setCell (p := ⟨w.heap.size + 2, 0, none⟩) (Nat.le_add_right _ 2) (.string M[x.val]!.name))
    have HR1 := Lib.hid (HI.out.r.set (.string M[x.val]!.name))
    have HKO := Lib.hid (KeepsOthers.setCell V ⟨w.heap.size + 2, 0, none⟩ (.string M[x.val]!.name))
    have hz1 : (V.setCell ⟨w.heap.size + 2, 0, none⟩ (.string M[x.val]!.name)).heap.size = V.heap.size := World.size_setCell _ _ _
    clear hv1
    generalize hpv : vals pre = vp at *
    have HPV := Lib.hid hpv
    clear hpv
    generalize hnm : M[x.val]!.name = nm at *
    have HNM2 := Lib.hid hnm
    clear hnm
    by_cases hs0 : s - (vp.length : Int) ≤ 0
    · have hlen2 : vp.length = s.toNat := by omega
      gi_wp2_with fail
      refine ⟨HKO.out.from _, rfl, ?_⟩
      show NX w M s (vals (pre ++ [x])) _
      rw [HPE.out]
      exact ⟨⟨_, _, rfl, hlen2, by rw [HNM2.out]; exact HR1.out⟩, HB1.out⟩
    · have hw64 : wrap64 (s - (vp.length : Int) - 1) = s - (vp.length : Int) - 1 := by unfold wrap64; omega
      gi_wp2_with fail
      refine ⟨(HKO.out.trans (KeepsOthers.setCell _ _ _)).from _, ⟨by simp, fun q hq hm => ?_⟩, ?_⟩
      · exact (blk_other (by omega)).trans (blk_other (by omega))
      · show NI w _ sb M s (vals (pre ++ [x])) _
        rw [HPE.out]
        refine ⟨by rw [List.length_append, List.length_singleton]; omega, (blk_other (by omega)).trans ((blk_other (by omega)).trans HI.out.s), ?_, ?_, HB1.out.setCell (p := ⟨w.heap.size + 1, 0, none⟩) (Nat.le_succ _) _, by have := HI.out.n; simp; omega⟩
        · have h1 := HV1.out.set (.int .i64 (s - (vp.length : Int) - 1))
          rw [List.length_append, List.length_singleton, show s - ((vp.length + 1 : Nat) : Int) = s - (vp.length : Int) - 1 by omega]
          exact h1
        · rw [HNM.out]
          exact (blk_other (by omega)).trans HR1.out
  case done =>
    rintro D ys V hD hys hi hK
    rw [hys] at hi
    have cb7 := hi.r.cell
    have hB1 := hi.r.lt
    have HI := Lib.hid hi
    have HK := Lib.hid hK
    have HF := Lib.hid (nextL_done hi.a)
    clear hi hK
    rw [← HF.out] at cb7
    gi_wp2_with fail
    exact leave_mark (J := fun (_ : Unit) V => Below w.heap.size w V) (ownFrom_below (Nat.le_refl _) (Nat.le_refl _)) ()
      (fun V h => by refine ⟨_, results_tmp rfl _ _ _, ?_⟩; exact ⟨rfl, h⟩) (by omega) HK.out HI.out.b
  case stop =>
    rintro D c' pre V hD hpre ⟨rfl, hx⟩ hK
    obtain ⟨⟨p, x, h1, h2, h4⟩, hbl⟩ := hx
    rw [h1] at hpre
    have HF := Lib.hid (nextL_stop hpre h2)
    have cb7 := h4.cell
    have hB1 := h4.lt
    rw [← HF.out] at cb7
    have HK := Lib.hid hK
    clear h1 h2 hpre h4 hK
    gi_wp2_with fail
    exact leave_mark (J := fun (_ : Unit) V => Below w.heap.size w V) (ownFrom_below (Nat.le_refl _) (Nat.le_refl _)) ()
      (fun V h => by refine ⟨_, results_tmp rfl _ _ _, ?_⟩; exact ⟨rfl, h⟩) (by omega) HK.out hbl
end Go.Proofs.Ytahhhhacoigpmaa.SF
