/-
  slices.choosePivotCmpFunc at items, and what it calls.
-/
import Derived.Test.YtcipgjelbnmdiaaHqB
namespace Go.Proofs.Ytcipgjelbnmdiaa.HP
open Go.RowKit Go.Shelf Go.Proofs.Ytcipgjelbnmdiaa.B
attribute [local go_sem] Oper.semAt_some

/-- .. and a counter of one's own. -/
structure SQ (w0 : World) (g c : Nat) (L : List It) (sb : Nat) (v : Int) (w : World) : Prop where
  r : SR w0 g c L w
  b : w.heap[sb]? = some (.cells #[.int .i64 v] 3 (0, 0))
theorem SQ.drew {w0 w : World} {g c sb : Nat} {v : Int} {L : List It} (h : SQ w0 g c L sb v w) : SQ w0 g c L sb v w.drew := ⟨h.r.drew, h.b⟩
theorem cmp_classq {w0 : World} {g c hb sb : Nat} {s v : Int} {L : List It} (hc : w0.cell? ⟨hb, 0, none⟩ = some (.int .i64 s)) (hne : hb ≠ g) (h1 : 1 ≤ s) (h2 : s ≤ 1048576) (x y : It) (hx : OkI x) (hy : OkI y) :
    ∀ z : WIn (SQ w0 g c L sb v), Calls Try.prog 50 #[pt hb, itV x, itV y] z.w fun e w'' => e = .returned (.int .i64 (cmpL s x y)) ∧ ∃ z' : WIn (SQ w0 g c L sb v), w'' = z'.w :=
  class_call (fun _ _ h hb => ⟨h.r.call hb, (hb.block _ (blk_lt h.b)).trans h.b⟩) (fun W h => compare_any W hb s (h.r.step hc hne) h1 h2 x y hx hy)
/-- A row, and some counter. -/
def SC (w0 : World) (g c : Nat) (L : List It) (sb : Nat) (w : World) : Prop := w0.heap.size ≤ sb ∧ sb ≠ g ∧ ∃ v, SQ w0 g c L sb v w
theorem SQ.up {w0 w : World} {g c sb : Nat} {v : Int} {L : List It} (h : SQ w0 g c L sb v w) (h0 : w0.heap.size ≤ sb) (hg : sb ≠ g) (v' : Int) : SC w0 g c L sb (w.setCell ⟨sb, 0, none⟩ (.int .i64 v')) := by
  refine ⟨h0, hg, v', ⟨h.r.k.setCell ⟨sb, 0, none⟩ (.inr h0) _, own_keep' h.r.r (blk_other (Ne.symm hg))⟩, ?_⟩
  rw [blk_set h.b]
  rfl
set_option maxRecDepth 100000 in
set_option maxHeartbeats 4000000 in
theorem o2_any (w0 w : World) (g c hh n : Nat) (s : Int) (L : List It) (sb : Nat) (h : SC w0 g c L sb w) (hn : L.length = n) (hok : ∀ x ∈ L, OkI x) (hc : w0.cell? ⟨hh, 0, none⟩ = some (.int .i64 s)) (hne : hh ≠ g) (h1 : 1 ≤ s) (h2 : s ≤ 1048576) (_hl : n ≤ 100000) (a b : Nat) (ha : a < n) (hb : b < n) :
    Calls Try.prog 89 #[.slice (some ⟨g, 0, none⟩) n c, .int .i64 (a : Int), .int .i64 (b : Int), pt sb, fv hh] w fun e w' => ∃ p q : Nat, e = .returned (.tuple #[.int .i64 (p : Int), .int .i64 (q : Int)]) ∧ ((p = a ∧ q = b) ∨ (p = b ∧ q = a)) ∧ SC w0 g c L sb w' := by
  obtain ⟨h0, hsg, v, hsq⟩ := h
  have HSQ := Lib.hid hsq
  have HOK0 := Lib.hid hok
  have HC := Lib.hid hc
  have HS := Lib.hid (And.intro h1 h2)
  have HN0 := Lib.hid hn
  clear hok hc h1 h2 hsq hn
  go_enter Try.func89, Try.ntmps89
  have hdr := HSQ.out.drew
  have hil : b < L.length := by rw [HN0.out]; omega
  have hjl : a < L.length := by rw [HN0.out]; omega
  have EN := cmp_classq (w0 := w0) (sb := sb) (v := v) (g := g) (c := c) (L := L) HC.out hne HS.out.1 HS.out.2 L[b]! L[a]! (HOK0.out _ (mem_at hil)) (HOK0.out _ (mem_at hjl))
  have f0 : ∀ x : WIn (SQ w0 g c L sb v), x.w.cell? ⟨g, b * 3, none⟩ = some (.int .i64 L[b]!.id) := fun x => (x.h.r.at_ hil).1
  have f1 : ∀ x : WIn (SQ w0 g c L sb v), x.w.cell? ⟨g, b * 3 + 1, none⟩ = some (.int .i64 L[b]!.base) := fun x => (x.h.r.at_ hil).2.1
  have f2 : ∀ x : WIn (SQ w0 g c L sb v), x.w.cell? ⟨g, b * 3 + 2, none⟩ = some (.int .i64 L[b]!.since) := fun x => (x.h.r.at_ hil).2.2
  have p0 : ∀ x : WIn (SQ w0 g c L sb v), x.w.cell? ⟨g, a * 3, none⟩ = some (.int .i64 L[a]!.id) := fun x => (x.h.r.at_ hjl).1
  have p1 : ∀ x : WIn (SQ w0 g c L sb v), x.w.cell? ⟨g, a * 3 + 1, none⟩ = some (.int .i64 L[a]!.base) := fun x => (x.h.r.at_ hjl).2.1
  have p2 : ∀ x : WIn (SQ w0 g c L sb v), x.w.cell? ⟨g, a * 3 + 2, none⟩ = some (.int .i64 L[a]!.since) := fun x => (x.h.r.at_ hjl).2.2
  haveI hNE : Nonempty (WIn (SQ w0 g c L sb v)) := ⟨⟨_, hdr⟩⟩
  have HAH := Lib.hid (cmpL_ah s L[b]! L[a]!)
  obtain ⟨x, hx⟩ : ∃ x, x = L[b]! := ⟨_, rfl⟩
  obtain ⟨y, hy⟩ : ∃ y, y = L[a]! := ⟨_, rfl⟩
  have HX := Lib.hid hx
  have HY := Lib.hid hy
  rw [← hx, ← hy] at EN HAH
  rw [← hx] at f0 f1 f2
  rw [← hy] at p0 p1 p2
  clear hx hy hil hjl
  obtain ⟨xi, xb, xs⟩ := x
  obtain ⟨yi, yb, ys⟩ := y
  simp only at f0 f1 f2 p0 p1 p2
  generalize cmpL s ⟨xi, xb, xs⟩ ⟨yi, yb, ys⟩ = cc at *
  have hj0 : (0 : Int) ≤ (b : Int) := Int.natCast_nonneg _
  have hj1 : (b : Int) < (n : Int) := by omega
  have hp0 : (0 : Int) ≤ (a : Int) := Int.natCast_nonneg _
  have hp1 : (a : Int) < (n : Int) := by omega
  go_upto_region 1 with fail
  go_cut [22] from 12 (fun t wx => t = .bool (ahB s L[b]! L[a]!) ∧ Hid (SQ w0 g c L sb v wx))
  case first =>
    refine wp_region_class (SQ w0 g c L sb v) (by kernel_rfl) (by kernel_rfl) hdr ?_
    repeat (go_big_quiet_step (exact EN _))
    refine wpQuiet_nil ?_
    rintro _ ⟨⟨wq, hwq⟩, rfl⟩
    go_wp2_with fail
    go_meet
    exact ⟨by rw [HAH.out, HX.out, HY.out], Lib.hid hwq⟩
  case rest =>
    obtain ⟨rfl, HSR2⟩ := hcut
    obtain ⟨w5, hwc⟩ : ∃ w5, w5 = wc := ⟨_, rfl⟩
    rw [← hwc] at HSR2 ⊢
    clear hwc f0 f1 f2 p0 p1 p2 EN hdr HSQ HAH HX HY hj0 hj1 hp0 hp1 hNE
    cases hcc : ahB s L[b]! L[a]! with
    | true =>
      have q0 : w5.cell? ⟨sb, 0, none⟩ = some (.int .i64 v) := cell_blk (i := 0) HSR2.out.b rfl
      have qf := frozen_blk (i := 0) HSR2.out.b
      have ql := blk_lt HSR2.out.b
      have HUP := Lib.hid (HSR2.out.up h0 hsg)
      go_wp2_with fail
      go_ret2
      exact ⟨b, a, rfl, .inr ⟨rfl, rfl⟩, HUP.out _⟩
    | false =>
      have HUP : Hid (SC w0 g c L sb w5) := Lib.hid ⟨h0, hsg, v, HSR2.out⟩
      go_wp2_with fail
      go_ret2
      exact ⟨a, b, rfl, .inl ⟨rfl, rfl⟩, HUP.out⟩
set_option maxRecDepth 100000 in
set_option maxHeartbeats 4000000 in
theorem med_any (w0 w : World) (g c hh n : Nat) (s : Int) (L : List It) (sb : Nat) (h : SC w0 g c L sb w) (hn : L.length = n) (hok : ∀ x ∈ L, OkI x) (hc : w0.cell? ⟨hh, 0, none⟩ = some (.int .i64 s)) (hne : hh ≠ g) (h1 : 1 ≤ s) (h2 : s ≤ 1048576) (hl : n ≤ 100000) (a b d : Nat) (ha : a < n) (hb : b < n) (hd : d < n) :
    Calls Try.prog 88 #[.slice (some ⟨g, 0, none⟩) n c, .int .i64 (a : Int), .int .i64 (b : Int), .int .i64 (d : Int), pt sb, fv hh] w fun e w' => ∃ p : Nat, e = .returned (.int .i64 (p : Int)) ∧ (p = a ∨ p = b ∨ p = d) ∧ SC w0 g c L sb w' := by
  have CC := Lib.hid (fun (W : World) (hW : SC w0 g c L sb W) (x y : Nat) (hx : x < n) (hy : y < n) => o2_any w0 W g c hh n s L sb hW hn hok hc hne h1 h2 hl x y hx hy)
  have C1 := Lib.hid (CC.out w h a b ha hb)
  clear hok hc h1 h2 h hn
  go_enter Try.func88, Try.ntmps88
  go_wp2_with fail
  refine C1.out.mono ?_
  rintro e W1 ⟨p1, q1, rfl, k1, hs1⟩
  have hp1 : p1 < n := by omega
  have hq1 : q1 < n := by omega
  have C2 := Lib.hid (CC.out W1 hs1 q1 d hq1 hd)
  clear hs1 C1
  go_wp2_with fail
  refine C2.out.mono ?_
  rintro e W2 ⟨p2, q2, rfl, k2, hs2⟩
  have hp2 : p2 < n := by omega
  have C3 := Lib.hid (CC.out W2 hs2 p1 p2 hp1 hp2)
  clear hs2 C2
  go_wp2_with fail
  refine C3.out.mono ?_
  rintro e W3 ⟨p3, q3, rfl, k3, hs3⟩
  have HF : Hid (q3 = a ∨ q3 = b ∨ q3 = d) := Lib.hid (by omega)
  have HS3 := Lib.hid hs3
  clear hs3 C3 k1 k2 k3
  go_wp2_with fail
  go_ret
  exact ⟨q3, rfl, HF.out, HS3.out⟩
set_option maxRecDepth 100000 in
set_option maxHeartbeats 4000000 in
theorem mad_any (w0 w : World) (g c hh n : Nat) (s : Int) (L : List It) (sb : Nat) (h : SC w0 g c L sb w) (hn : L.length = n) (hok : ∀ x ∈ L, OkI x) (hc : w0.cell? ⟨hh, 0, none⟩ = some (.int .i64 s)) (hne : hh ≠ g) (h1 : 1 ≤ s) (h2 : s ≤ 1048576) (hl : n ≤ 100000) (a : Nat) (ha0 : 1 ≤ a) (ha : a + 1 < n) :
    Calls Try.prog 87 #[.slice (some ⟨g, 0, none⟩) n c, .int .i64 (a : Int), pt sb, fv hh] w fun e w' => ∃ p : Nat, e = .returned (.int .i64 (p : Int)) ∧ a ≤ p + 1 ∧ p ≤ a + 1 ∧ SC w0 g c L sb w' := by
  obtain ⟨am, ham⟩ : ∃ am, am = a - 1 := ⟨_, rfl⟩
  obtain ⟨ap, hap⟩ : ∃ ap, ap = a + 1 := ⟨_, rfl⟩
  have e1 : (a : Int) - 1 = (am : Int) := by omega
  have e2 : (a : Int) + 1 = (ap : Int) := by omega
  have C1 := Lib.hid (med_any w0 w g c hh n s L sb h hn hok hc hne h1 h2 hl am a ap (by omega) (by omega) (by omega))
  have HE := Lib.hid (And.intro ham hap)
  clear hok hc h1 h2 h hn ham hap
  go_enter Try.func87, Try.ntmps87
  go_wp2_with fail
  refine C1.out.mono ?_
  rintro e W3 ⟨p, rfl, k3, hs3⟩
  have HF : Hid (a ≤ p + 1 ∧ p ≤ a + 1) := Lib.hid (by have := HE.out; omega)
  have HS3 := Lib.hid hs3
  clear hs3 C1 k3
  go_wp2_with fail
  go_ret
  exact ⟨p, rfl, HF.out.1, HF.out.2, HS3.out⟩
set_option maxRecDepth 100000 in
set_option maxHeartbeats 4000000 in
theorem cp_any (w0 w : World) (g c hh n : Nat) (s : Int) (L : List It) (h : SR w0 g c L w) (hn : L.length = n) (hok : ∀ x ∈ L, OkI x) (hc : w0.cell? ⟨hh, 0, none⟩ = some (.int .i64 s)) (hne : hh ≠ g) (h1 : 1 ≤ s) (h2 : s ≤ 1048576) (hl : n ≤ 100000) (a b : Nat) (hab : a + 12 < b) (hbn : b ≤ n) :
    Calls Try.prog 77 #[.slice (some ⟨g, 0, none⟩) n c, .int .i64 (a : Int), .int .i64 (b : Int), fv hh] w fun e w' => ∃ (p : Nat) (t : Int), e = .returned (.tuple #[.int .i64 (p : Int), .int .i64 t]) ∧ a ≤ p ∧ p < b ∧ SR w0 g c L w' := by
  obtain ⟨sb, hsb⟩ : ∃ sb, sb = w.heap.size := ⟨_, rfl⟩
  have hgl := h.lt
  have hS1 : SC w0 g c L sb (w.alloc (.cells #[.int .i64 0] 3)) := ⟨by rw [hsb]; exact h.k.size, by omega, 0, h.call ((Below.refl _ _).alloc (Nat.le_refl _) _), by rw [hsb]; exact heap_new w _⟩
  have CM := Lib.hid (fun (W : World) (hW : SC w0 g c L sb W) (x y z : Nat) (hx : x < n) (hy : y < n) (hz : z < n) => med_any w0 W g c hh n s L sb hW hn hok hc hne h1 h2 hl x y z hx hy hz)
  have CA := Lib.hid (fun (W : World) (hW : SC w0 g c L sb W) (x : Nat) (h1x : 1 ≤ x) (hx : x + 1 < n) => mad_any w0 W g c hh n s L sb hW hn hok hc hne h1 h2 hl x h1x hx)
  obtain ⟨l, hll⟩ : ∃ l, l = b - a := ⟨_, rfl⟩
  obtain ⟨d, hdd⟩ : ∃ d, d = l / 4 := ⟨_, rfl⟩
  have e0 : (b : Int) - (a : Int) = (l : Int) := by omega
  have e1 : (l : Int).tdiv 4 = (d : Int) := by rw [Int.tdiv_eq_ediv_of_nonneg (by omega)]; omega
  obtain ⟨i, hi⟩ : ∃ i, i = a + d := ⟨_, rfl⟩
  obtain ⟨j, hj⟩ : ∃ j, j = a + d * 2 := ⟨_, rfl⟩
  obtain ⟨k, hk⟩ : ∃ k, k = a + d * 3 := ⟨_, rfl⟩
  have e2 : (a : Int) + (d : Int) = (i : Int) := by omega
  have e3 : (a : Int) + (d : Int) * 2 = (j : Int) := by omega
  have e4 : (a : Int) + (d : Int) * 3 = (k : Int) := by omega
  have HB : Hid (a ≤ i ∧ i < b ∧ a ≤ j ∧ j < b ∧ a ≤ k ∧ k < b ∧ b ≤ n ∧ (50 ≤ l → a + 1 ≤ i ∧ i + 1 < b ∧ a + 1 ≤ j ∧ j + 1 < b ∧ a + 1 ≤ k ∧ k + 1 < b)) := Lib.hid (by omega)
  have hge8 : (l : Int) ≥ 8 := by omega
  have hln : (l : Int) ≤ 100000 := by omega
  have hdn : (d : Int) ≤ 100000 := by omega
  have HSB := Lib.hid hsb
  clear h hok hc h1 h2 hn hi hj hk hdd hll hgl hab hsb
  go_enter Try.func77, Try.ntmps77
  by_cases h50 : 50 ≤ l
  · have hge : (l : Int) ≥ 50 := by omega
    have HB2 := Lib.hid (HB.out.2.2.2.2.2.2.2 h50)
    have C1 := Lib.hid (CA.out _ hS1 i (by have := HB2.out; omega) (by have := HB2.out; have := HB.out; omega))
    rw [HSB.out] at C1
    clear h50 hS1
    go_wp2_with fail
    refine C1.out.mono ?_
    rw [← HSB.out]
    rintro e W2 ⟨i2, rfl, k1, k1', hs2⟩
    have HI2 := Lib.hid (And.intro k1 k1')
    have C2 := Lib.hid (CA.out _ hs2 j (by have := HB2.out; omega) (by have := HB2.out; have := HB.out; omega))
    clear hs2 C1 k1 k1'
    go_wp2_with fail
    refine C2.out.mono ?_
    rintro e W3 ⟨j2, rfl, k1, k1', hs3⟩
    have HJ2 := Lib.hid (And.intro k1 k1')
    have C3 := Lib.hid (CA.out _ hs3 k (by have := HB2.out; omega) (by have := HB2.out; have := HB.out; omega))
    clear hs3 C2 k1 k1'
    go_wp2_with fail
    refine C3.out.mono ?_
    rintro e W4 ⟨k2, rfl, k1, k1', hs4⟩
    have HK2 := Lib.hid (And.intro k1 k1')
    have HB0 := HB
    have HB : Hid (a ≤ i2 ∧ i2 < b ∧ a ≤ j2 ∧ j2 < b ∧ a ≤ k2 ∧ k2 < b ∧ b ≤ n) := Lib.hid (by have := HB2.out; have := HI2.out; have := HJ2.out; have := HK2.out; omega)
    have C4 := Lib.hid (CM.out W4 hs4 i2 j2 k2 (by have := HB.out; omega) (by have := HB.out; omega) (by have := HB.out; omega))
    clear C3 hs4 k1 k1'
    go_wp2_with fail
    refine C4.out.mono ?_
    rintro e W5 ⟨p, rfl, k5, h0, hsg, v, hs5⟩
    have HP : Hid (a ≤ p ∧ p < b) := Lib.hid (by have := HB.out; omega)
    have HS5 := Lib.hid hs5.r
    have q0 : W5.cell? ⟨sb, 0, none⟩ = some (.int .i64 v) := cell_blk (i := 0) hs5.b rfl
    have ql := blk_lt hs5.b
    clear hs5 C4 k5
    by_cases v0 : v = 0
    · subst v0
      go_wp2_with fail
      go_ret2
      exact ⟨p, 1, rfl, HP.out.1, HP.out.2, HS5.out⟩
    · have vb : (v == 0) = false := by rw [beq_eq_false_iff_ne]; exact v0
      by_cases v1 : v = 12
      · subst v1
        go_wp2_with fail
        go_ret2
        exact ⟨p, 2, rfl, HP.out.1, HP.out.2, HS5.out⟩
      · have vc : (v == 12) = false := by rw [beq_eq_false_iff_ne]; exact v1
        go_wp2_with fail
        go_ret2
        exact ⟨p, 0, rfl, HP.out.1, HP.out.2, HS5.out⟩
  · have hge : ¬ (l : Int) ≥ 50 := by omega
    clear h50
    have C4 := Lib.hid (CM.out _ hS1 i j k (by have := HB.out; omega) (by have := HB.out; omega) (by have := HB.out; omega))
    rw [HSB.out] at C4
    clear hS1
    go_wp2_with fail
    refine C4.out.mono ?_
    rw [← HSB.out]
    rintro e W5 ⟨p, rfl, k5, h0, hsg, v, hs5⟩
    have HP : Hid (a ≤ p ∧ p < b) := Lib.hid (by have := HB.out; omega)
    have HS5 := Lib.hid hs5.r
    have q0 : W5.cell? ⟨sb, 0, none⟩ = some (.int .i64 v) := cell_blk (i := 0) hs5.b rfl
    have ql := blk_lt hs5.b
    clear hs5 C4 k5
    by_cases v0 : v = 0
    · subst v0
      go_wp2_with fail
      go_ret2
      exact ⟨p, 1, rfl, HP.out.1, HP.out.2, HS5.out⟩
    · have vb : (v == 0) = false := by rw [beq_eq_false_iff_ne]; exact v0
      by_cases v1 : v = 12
      · subst v1
        go_wp2_with fail
        go_ret2
        exact ⟨p, 2, rfl, HP.out.1, HP.out.2, HS5.out⟩
      · have vc : (v == 12) = false := by rw [beq_eq_false_iff_ne]; exact v1
        go_wp2_with fail
        go_ret2
        exact ⟨p, 0, rfl, HP.out.1, HP.out.2, HS5.out⟩
end Go.Proofs.Ytcipgjelbnmdiaa.HP
