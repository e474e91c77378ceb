/-
  The document's own heap, in words of the same list: New, place, Has, ahead, Peek, Weight.
-/
import Derived.Test.YtcipgjelbnmdiaaHpY
namespace Go.Proofs.Ytcipgjelbnmdiaa.HP
open Go.RowKit Go.Shelf Go.Proofs.Ytcipgjelbnmdiaa.B
attribute [local go_sem] Oper.semAt_some

/-- The document's heap in memory. -/
structure RH (w : World) (rb : Nat) (A : Option Addr) (c : Nat) (s : Int) (T : List It) : Prop where
  box : w.heap[rb]? = some (.cells #[.int .i64 s, .slice A T.length c] 49 (0, 0))
  row : ∃ B, w.ownsRow B 37 3 (.slice A T.length c) T.length (T.flatMap itC)
  few : T.length ≤ 1000
  step : 1 ≤ s ∧ s ≤ 1048576
  ok : ∀ x ∈ T, OkI x
theorem RH.lt {w : World} {rb c : Nat} {A : Option Addr} {s : Int} {T : List It} (h : RH w rb A c s T) : rb < w.heap.size := blk_lt h.box
theorem RH.at_ {w : World} {rb c : Nat} {A : Option Addr} {s : Int} {T : List It} (h : RH w rb A c s T) {i : Nat} (hi : i < T.length) :
    ∃ g, A = some ⟨g, 0, none⟩ ∧ w.cell? ⟨g, i * 3, none⟩ = some (.int .i64 T[i]!.id) ∧ w.cell? ⟨g, i * 3 + 1, none⟩ = some (.int .i64 T[i]!.base) ∧ w.cell? ⟨g, i * 3 + 2, none⟩ = some (.int .i64 T[i]!.since) := by
  obtain ⟨B, hr⟩ := h.row
  obtain ⟨g, cap, e, _, _⟩ := own_head hr (by omega)
  injection e with e _ _
  subst e
  obtain ⟨b, off, hA, hl, c0⟩ := (Row.of_own hr).at_ (k := 3) (fun _ => rfl) (by omega) hi
  injection hA with hA
  injection hA with e1 e2 _
  subst e1 e2
  refine ⟨g, rfl, ?_, ?_, ?_⟩
  · have := c0 0 _ rfl; simpa using this
  · have := c0 1 _ rfl; simpa using this
  · have := c0 2 _ rfl; simpa using this
theorem RH.keep {w w' : World} {rb c : Nat} {A : Option Addr} {s : Int} {T : List It} (h : RH w rb A c s T) (h1 : w'.heap[rb]? = w.heap[rb]?) (h2 : ∀ q, (Value.slice A T.length c).ownBlock = some q → w'.heap[q]? = w.heap[q]?) : RH w' rb A c s T where
  box := h1.trans h.box
  row := by
    obtain ⟨B, hr⟩ := h.row
    refine ⟨B, hr.1, ?_⟩
    rcases hr.2 with h9 | ⟨g, cap, cur, hv, hg, hh, hx⟩
    · exact .inl h9
    · refine .inr ⟨g, cap, cur, hv, hg, (h2 g ?_).trans hh, hx⟩
      rw [hv]; rfl
  few := h.few
  step := h.step
  ok := h.ok
theorem RH.below {w w' : World} {rb c : Nat} {A : Option Addr} {s : Int} {T : List It} (h : RH w rb A c s T) (hb : Below w.heap.size w w') : RH w' rb A c s T :=
  h.keep (hb.block _ h.lt) (fun q hq => by obtain ⟨B, hr⟩ := h.row; exact hb.block q (hr.lt q hq).2)
set_option maxHeartbeats 400000 in
theorem rnew_no (w : World) (s : Int) (h : s < 1 ∨ 1048576 < s) : Calls Try.prog 11 #[.int .i64 s] w fun e w' => e = .returned (.tuple #[.pointer none, .int .i64 1]) ∧ w = w' := by
  by_cases h1 : s < 1
  · go_enter Try.func11, Try.ntmps11
    go_wp2_with fail
    go_ret2
    exact ⟨rfl, rfl⟩
  · have h2 : s > 1048576 := by omega
    go_enter Try.func11, Try.ntmps11
    go_wp2_with fail
    go_ret2
    exact ⟨rfl, rfl⟩
set_option maxHeartbeats 400000 in
theorem rnew_yes (w : World) (s : Int) (h1 : 1 ≤ s) (h2 : s ≤ 1048576) : Calls Try.prog 11 #[.int .i64 s] w fun e w' => e = .returned (.tuple #[pt w.heap.size, .int .i64 0]) ∧ RH w' w.heap.size none 0 s [] ∧ Below w.heap.size w w' := by
  have k1 : ¬ s < 1 := by omega
  have k2 : ¬ s > 1048576 := by omega
  have HF : Hid (RH (w.alloc (.cells #[.int .i64 s, .slice none 0 0] 49)) w.heap.size none 0 s []) := Lib.hid ⟨heap_new w _, ⟨0, World.ownsRow_nil _ _ _ _⟩, Nat.zero_le _, ⟨h1, h2⟩, fun x hx => by cases hx⟩
  go_enter Try.func11, Try.ntmps11
  go_wp2_with fail
  go_ret2
  exact ⟨rfl, HF.out, (Below.refl _ _).alloc (Nat.le_refl _) _⟩
/-- Where the one of a number stands; below 0: nowhere. -/
def plI (T : List It) (i : Int) : Int := idxB (fun x => x.id == i) T
theorem plI_has (T : List It) (i : Int) : decide (0 ≤ plI T i) = hasB T i := idxB_any _ _
theorem plI_no {T : List It} {i : Int} (h : hasB T i = false) : plI T i = -1 := idxB_miss (fun j hj => by
  have h1 := List.any_eq_false.1 h T[j]! (mem_at hj)
  simpa using h1)
theorem plI_yes {T : List It} {i : Int} (hd : DI T) (h : hasB T i = true) : ∃ k, k < T.length ∧ plI T i = (k : Int) ∧ T[k]!.id = i ∧ getI T i = T[k]! := by
  have h0 : 0 ≤ plI T i := by have := plI_has T i; rw [h] at this; simpa using this
  unfold plI idxB at h0
  cases hf : T.findIdx? (fun x => x.id == i) with
  | none => rw [hf] at h0; exact absurd h0 (by decide)
  | some k =>
    obtain ⟨hk, hp, _⟩ := List.findIdx?_eq_some_iff_getElem.1 hf
    have he : T[k]!.id = i := by rw [getElem!_pos T k hk]; simpa using hp
    refine ⟨k, hk, by unfold plI idxB; rw [hf], he, ?_⟩
    have := getI_mem hd (mem_at hk)
    rw [he] at this
    exact this
set_option maxRecDepth 100000 in
set_option maxHeartbeats 1000000 in
theorem rplace_any (w : World) (rb c : Nat) (A : Option Addr) (s : Int) (T : List It) (h : RH w rb A c s T) (i : Int) : Calls Try.prog 46 #[pt rb, .int .i64 i] w fun e w' => e = .returned (.int .i64 (plI T i)) ∧ w = w' := by
  have c1 : w.cell? ⟨rb, 1, none⟩ = some (.slice A T.length c) := cell_blk (i := 1) h.box rfl
  have hl := h.lt
  have hf := h.few
  have HA := Lib.hid (fun (k : Nat) (hk : k < T.length) => h.at_ hk)
  clear h
  go_enter Try.func46, Try.ntmps46
  go_wp2_with fail
  go_loop [5] (fun v => ∃ k : Nat, k ≤ T.length ∧ v = .int .i64 (k : Int) ∧ Hid (∀ j, j < k → (T[j]!.id == i) = false)) (fun v => T.length - (intOf v).toNat)
  case atStart => exact ⟨0, Nat.zero_le _, rfl, Lib.hid (fun j hj => by omega)⟩
  case round =>
    obtain ⟨k, hk, rfl, HN⟩ := hrel
    by_cases hlt : k < T.length
    · have hlt1 : (k : Int) < (T.length : Int) := by omega
      have hk0 : (0 : Int) ≤ (k : Int) := Int.natCast_nonneg _
      obtain ⟨g, hA, x0, -, -⟩ := HA.out k hlt
      have HAE := Lib.hid hA
      cases heq : (T[k]!.id == i) with
      | true =>
        have HE : Hid (plI T i = (k : Int)) := Lib.hid (idxB_hit hlt heq HN.out)
        subst hA
        obtain ⟨xi, hxi⟩ : ∃ xi, xi = T[k]!.id := ⟨_, rfl⟩
        rw [← hxi] at heq x0
        clear hxi
        go_wp2_with fail
        go_ret
        exact ⟨by first | rfl | (rw [HE.out]; rfl), rfl⟩
      | false =>
        have HN2 : Hid (∀ j, j < k + 1 → (T[j]!.id == i) = false) := Lib.hid (fun j hj => by
          by_cases e : j = k
          · rw [e]; exact heq
          · exact HN.out j (by omega))
        subst hA
        obtain ⟨xi, hxi⟩ : ∃ xi, xi = T[k]!.id := ⟨_, rfl⟩
        rw [← hxi] at heq x0
        clear hxi
        go_wp2_with fail
        go_round
        case rel => exact ⟨k + 1, hlt, by go_num, HN2⟩
        case measure => simp [intOf]; omega
    · have hlt1 : ¬ (k : Int) < (T.length : Int) := by omega
      obtain rfl : k = T.length := by omega
      have HE : Hid (plI T i = -1) := Lib.hid (idxB_miss HN.out)
      go_wp2_with fail
      go_ret
      exact ⟨by first | rfl | (rw [HE.out]; rfl), rfl⟩
set_option maxHeartbeats 400000 in
theorem rhas_any (w : World) (rb c : Nat) (A : Option Addr) (s : Int) (T : List It) (h : RH w rb A c s T) (i : Int) : Calls Try.prog 23 #[pt rb, .int .i64 i] w fun e w' => e = .returned (.bool (hasB T i)) ∧ w = w' := by
  have CP := Lib.hid (rplace_any w rb c A s T h i)
  have HE := Lib.hid (plI_has T i)
  rw [← HE.out]
  clear h
  generalize plI T i = p at *
  go_enter Try.func23, Try.ntmps23
  go_wp2_with fail
  refine CP.out.mono ?_
  rintro e w1 ⟨rfl, rfl⟩
  go_wp2_with fail
  go_ret
  exact ⟨rfl, rfl⟩
set_option maxRecDepth 100000 in
set_option maxHeartbeats 1000000 in
theorem rpeek_any (w : World) (rb c : Nat) (A : Option Addr) (s : Int) (T : List It) (h : RH w rb A c s T) : Calls Try.prog 15 #[pt rb] w fun e w' => e = .returned (.tuple #[itV T[0]!, .bool (decide (0 < T.length))]) ∧ Below w.heap.size w w' := by
  have c1 : w.cell? ⟨rb, 1, none⟩ = some (.slice A T.length c) := cell_blk (i := 1) h.box rfl
  have hl := h.lt
  have hf := h.few
  have ZB := Lib.hid (fun x : It => (Below.refl w.heap.size w).alloc (Nat.le_refl _) (.cells #[.int .i64 x.id, .int .i64 x.base, .int .i64 x.since] 37))
  by_cases h0 : 0 < T.length
  · obtain ⟨g, rfl, x0, x1, x2⟩ := h.at_ h0
    have hgl : g < w.heap.size := World.block_lt_of_cell? _ _ x0
    have hne : ((T.length : Int) == 0) = false := by rw [beq_eq_false_iff_ne]; omega
    have h1 : (0 : Int) < (T.length : Int) := by omega
    have hd : decide (0 < T.length) = true := decide_eq_true h0
    rw [hd]
    clear h hd h0
    obtain ⟨x, hx⟩ : ∃ x, x = T[0]! := ⟨_, rfl⟩
    rw [← hx] at x0 x1 x2 ⊢
    clear hx
    have zb := Lib.hid (ZB.out x)
    obtain ⟨xi, xb, xs⟩ := x
    simp only [Nat.zero_mul, Nat.zero_add] at x0 x1 x2
    go_enter Try.func15, Try.ntmps15
    go_wp2_with fail
    exact bodyPost_ret (v := .tuple #[itV ⟨xi, xb, xs⟩, .bool true]) (by simp [results, Try.results15, go_sem]) rfl ⟨rfl, zb.out⟩
  · have he : T = [] := List.eq_nil_of_length_eq_zero (by omega)
    subst he
    simp only [List.length_nil] at c1
    clear h h0 hf
    have zb := Lib.hid (ZB.out ⟨0, 0, 0⟩)
    go_enter Try.func15, Try.ntmps15
    go_wp2_with fail
    exact bodyPost_ret (v := .tuple #[itV ⟨0, 0, 0⟩, .bool false]) (by simp [results, Try.results15, go_sem]) rfl ⟨rfl, zb.out⟩
theorem wt_bd {s : Int} (h1 : 1 ≤ s) (h2 : s ≤ 1048576) {x : It} (h : OkI x) : ∃ m : Int, x.base * s = m ∧ 0 ≤ m ∧ m ≤ 9437184 := by
  obtain ⟨_, ⟨a, b⟩, _⟩ := h
  refine ⟨_, rfl, Int.mul_nonneg a (by omega), ?_⟩
  have := Int.mul_le_mul b h2 (by omega) (by omega : (0 : Int) ≤ 9)
  omega
set_option maxRecDepth 100000 in
set_option maxHeartbeats 2000000 in
theorem rahead_any (w : World) (rb c : Nat) (A : Option Addr) (s : Int) (T : List It) (h : RH w rb A c s T) (x y : It) (hx : OkI x) (hy : OkI y) :
    Calls Try.prog 44 #[pt rb, itV x, itV y] w fun e w' => e = .returned (.bool (ahB s x y)) ∧ Below w.heap.size w w' := by
  have c0 : w.cell? ⟨rb, 0, none⟩ = some (.int .i64 s) := cell_blk (i := 0) h.box rfl
  have hl := h.lt
  obtain ⟨mx, ex, mx0, mx1⟩ := wt_bd h.step.1 h.step.2 hx
  obtain ⟨my, ey, my0, my1⟩ := wt_bd h.step.1 h.step.2 hy
  obtain ⟨_, _, ⟨xs0, xs1⟩⟩ := hx
  obtain ⟨_, _, ⟨ys0, ys1⟩⟩ := hy
  have HE : Hid (ahB s x y = decide (my - y.since < mx - x.since ∨ (mx - x.since = my - y.since ∧ x.id < y.id))) := Lib.hid (by unfold ahB wt; rw [ex, ey])
  rw [HE.out]
  clear HE h
  obtain ⟨xi, xb, xs⟩ := x
  obtain ⟨yi, yb, ys⟩ := y
  simp only at *
  obtain ⟨px, hpx⟩ : ∃ px, mx - xs = px := ⟨_, rfl⟩
  obtain ⟨py, hpy⟩ : ∃ py, my - ys = py := ⟨_, rfl⟩
  have wx1 : IntKind.i64.wrap mx = mx := by rw [IntKind.wrap_i64]; omega
  have wx2 : IntKind.i64.wrap px = px := by rw [IntKind.wrap_i64]; omega
  have wy1 : IntKind.i64.wrap my = my := by rw [IntKind.wrap_i64]; omega
  have wy2 : IntKind.i64.wrap py = py := by rw [IntKind.wrap_i64]; omega
  rw [hpx, hpy]
  have zx1 : wrap64 mx = mx := by unfold wrap64; omega
  have zx2 : wrap64 px = px := by unfold wrap64; omega
  have zy1 : wrap64 my = my := by unfold wrap64; omega
  have zy2 : wrap64 py = py := by unfold wrap64; omega
  obtain ⟨W0, hW0⟩ : ∃ W0, W0 = ((w.alloc (.cells #[.int .i64 xi, .int .i64 xb, .int .i64 xs] 37)).alloc (.cells #[.int .i64 yi, .int .i64 yb, .int .i64 ys] 37)) := ⟨_, rfl⟩
  have hB0 : Below w.heap.size w W0 := by rw [hW0]; exact ((Below.refl _ _).alloc (Nat.le_refl _) _).alloc (by rw [World.size_alloc]; omega) _
  have X : W0.heap[w.heap.size]? = some (.cells #[.int .i64 xi, .int .i64 xb, .int .i64 xs] 37 (0, 0)) := by rw [hW0]; exact heap_alloc2_old w _ _
  have Y : W0.heap[w.heap.size + 1]? = some (.cells #[.int .i64 yi, .int .i64 yb, .int .i64 ys] 37 (0, 0)) := by rw [hW0]; exact heap_alloc2_new w _ _
  have x0 : W0.cell? ⟨w.heap.size, 0, none⟩ = some (.int .i64 xi) := cell_blk (i := 0) X rfl
  have x1 : W0.cell? ⟨w.heap.size, 1, none⟩ = some (.int .i64 xb) := cell_blk (i := 1) X rfl
  have x2 : W0.cell? ⟨w.heap.size, 2, none⟩ = some (.int .i64 xs) := cell_blk (i := 2) X rfl
  have y0 : W0.cell? ⟨w.heap.size + 1, 0, none⟩ = some (.int .i64 yi) := cell_blk (i := 0) Y rfl
  have y1 : W0.cell? ⟨w.heap.size + 1, 1, none⟩ = some (.int .i64 yb) := cell_blk (i := 1) Y rfl
  have y2 : W0.cell? ⟨w.heap.size + 1, 2, none⟩ = some (.int .i64 ys) := cell_blk (i := 2) Y rfl
  have c0' : W0.cell? ⟨rb, 0, none⟩ = some (.int .i64 s) := (hB0.cell (p := ⟨rb, 0, none⟩) hl).trans c0
  have HB0 := Lib.hid hB0
  clear X Y hB0 c0 mx0 mx1 my0 my1 xs0 xs1 ys0 ys1
  cases hq : (px == py) with
  | true =>
    have HV : Hid (decide (py < px ∨ (px = py ∧ xi < yi)) = decide (xi < yi)) := Lib.hid (by have e : px = py := by simpa using hq
                                                                                             rw [e]; simp)
    go_enter Try.func44, Try.ntmps44
    go_wp2_with fail
    rw [← hW0]
    clear hW0
    go_quiet (fail)
    go_wp2_with fail
    go_quiet (fail)
    go_wp2_with fail
    go_ret
    exact ⟨by rw [HV.out]; rfl, below_draws HB0.out _⟩
  | false =>
    have HV : Hid (decide (py < px ∨ (px = py ∧ xi < yi)) = decide (py < px)) := Lib.hid (by have e : ¬ px = py := by simpa using hq
                                                                                             simp [e])
    go_enter Try.func44, Try.ntmps44
    go_wp2_with fail
    rw [← hW0]
    clear hW0
    go_quiet (fail)
    go_wp2_with fail
    go_quiet (fail)
    go_wp2_with fail
    go_ret
    exact ⟨by rw [HV.out]; rfl, below_draws HB0.out _⟩
/-- What Weight tells. -/
def rwE (s : Int) (T : List It) (i now : Int) : Int := if hasB T i = true then wgt s (getI T i) now else 0
set_option maxRecDepth 100000 in
set_option maxHeartbeats 2000000 in
theorem rweight_any (w : World) (rb c : Nat) (A : Option Addr) (s : Int) (T : List It) (h : RH w rb A c s T) (hd : DI T) (i now : Int) :
    Calls Try.prog 20 #[pt rb, .int .i64 i, .int .i64 now] w fun e w' => e = .returned (.tuple #[.int .i64 (rwE s T i now), .bool (hasB T i)]) ∧ Below w.heap.size w w' := by
  have CP := Lib.hid (rplace_any w rb c A s T h i)
  cases hh : hasB T i with
  | false =>
    have HE : Hid (rwE s T i now = 0) := Lib.hid (by unfold rwE; rw [hh, if_neg (by decide)])
    have e := plI_no hh
    rw [e] at CP
    clear h hd e hh
    go_enter Try.func20, Try.ntmps20
    go_wp2_with fail
    refine CP.out.mono ?_
    rintro e w1 ⟨rfl, rfl⟩
    go_wp2_with fail
    go_ret2
    exact ⟨by rw [HE.out]; rfl, Below.refl _ _⟩
  | true =>
    obtain ⟨k, hk, e, hid, hg⟩ := plI_yes hd hh
    rw [e] at CP
    have c0 : w.cell? ⟨rb, 0, none⟩ = some (.int .i64 s) := cell_blk (i := 0) h.box rfl
    have c1 : w.cell? ⟨rb, 1, none⟩ = some (.slice A T.length c) := cell_blk (i := 1) h.box rfl
    have hl := h.lt
    have hf := h.few
    have hok := h.ok _ (mem_at hk)
    obtain ⟨m, em, m0, m1⟩ := wt_bd h.step.1 h.step.2 hok
    obtain ⟨_, _, ⟨xs0, xs1⟩⟩ := hok
    obtain ⟨g, rfl, x0, x1, x2⟩ := h.at_ hk
    have HE : Hid (rwE s T i now = m + (min (max now 0) 1099511627776 - T[k]!.since)) := Lib.hid (by unfold rwE wgt; rw [hh, if_pos rfl, hg, em]; omega)
    have hk1 : (k : Int) < (T.length : Int) := by omega
    have hk0 : (0 : Int) ≤ (k : Int) := Int.natCast_nonneg _
    clear h hd e hh hid hg x0
    generalize T[k]!.base = xb at *
    generalize T[k]!.since = xs at *
    obtain ⟨nw, hnw⟩ : ∃ nw, min (max now 0) 1099511627776 = nw := ⟨_, rfl⟩
    have n0 : 0 ≤ nw := by omega
    have n1 : nw ≤ 1099511627776 := by omega
    rw [hnw] at HE
    obtain ⟨d, hd⟩ : ∃ d, nw - xs = d := ⟨_, rfl⟩
    obtain ⟨tt, ht⟩ : ∃ tt, m + d = tt := ⟨_, rfl⟩
    rw [hd, ht] at HE
    have q1 : IntKind.i64.wrap m = m := by rw [IntKind.wrap_i64]; omega
    have q2 : IntKind.i64.wrap d = d := by rw [IntKind.wrap_i64]; omega
    have q3 : IntKind.i64.wrap tt = tt := by rw [IntKind.wrap_i64]; omega
    by_cases hn0 : now < 0
    · obtain rfl : nw = 0 := by omega
      clear hnw n0 n1 m0 m1 xs0 xs1
      go_enter Try.func20, Try.ntmps20
      go_wp2_with fail
      refine CP.out.mono ?_
      rintro e w1 ⟨rfl, rfl⟩
      go_wp2_with fail
      go_quiet (fail)
      go_wp2_with fail
      go_ret2
      exact ⟨by rw [HE.out]; rfl, below_draws (Below.refl _ _) _⟩
    · by_cases hn1 : now > 1099511627776
      · obtain rfl : nw = 1099511627776 := by omega
        clear hnw n0 n1 m0 m1 xs0 xs1
        go_enter Try.func20, Try.ntmps20
        go_wp2_with fail
        refine CP.out.mono ?_
        rintro e w1 ⟨rfl, rfl⟩
        go_wp2_with fail
        go_quiet (fail)
        go_wp2_with fail
        go_ret2
        exact ⟨by rw [HE.out]; rfl, below_draws (Below.refl _ _) _⟩
      · obtain rfl : nw = now := by omega
        clear hnw n0 n1 m0 m1 xs0 xs1
        go_enter Try.func20, Try.ntmps20
        go_wp2_with fail
        refine CP.out.mono ?_
        rintro e w1 ⟨rfl, rfl⟩
        go_wp2_with fail
        go_quiet (fail)
        go_wp2_with fail
        go_ret2
        exact ⟨by rw [HE.out]; rfl, below_draws (Below.refl _ _) _⟩
end Go.Proofs.Ytcipgjelbnmdiaa.HP
