/-
  Contracts of package heap: Peek, Weight, Put.
-/
import Derived.Test.YtcipgjelbnmdiaaHpK
import Derived.StillTailTactics
namespace Go.Proofs.Ytcipgjelbnmdiaa.HP
open Go.RowKit Go.Shelf Go.Proofs.Ytcipgjelbnmdiaa.B Go.ChangeMaps
attribute [local go_sem] Oper.semAt_some

set_option maxRecDepth 100000 in
set_option maxHeartbeats 1000000 in
theorem peek_any (w : World) (hb : Nat) (A : HA) (s : Int) (L : List It) (h : HpI w hb A s L) : Calls Try.prog 18 #[pt hb] w fun e w' => e = .returned (.tuple #[itV L[0]!, .bool (decide (0 < L.length))]) ∧ Below w.heap.size w w' := by
  have hl := h.lt
  have ZB := Lib.hid (fun x : It => (Below.refl w.heap.size w).alloc (Nat.le_refl _) (.cells #[.int .i64 x.id, .int .i64 x.base, .int .i64 x.since] 32))
  by_cases h0 : 0 < L.length
  · obtain ⟨g, B, cur, hA, hgB, hgc, hgh, hgp, hgl, hrow⟩ := h.blk h0
    obtain ⟨ia, ic, pb⟩ := A
    obtain rfl : ia = some ⟨g, 0, none⟩ := hA
    have c1 : w.cell? ⟨hb, 1, none⟩ = some (.slice (some ⟨g, 0, none⟩) L.length ic) := cell_blk (i := 1) h.box rfl
    obtain ⟨⟨x0, x1, x2⟩, -⟩ := row_at hrow h0 rfl
    have hne : ((L.length : Int) == 0) = false := by rw [beq_eq_false_iff_ne]; omega
    have h1 : (0 : Int) < (L.length : Int) := by omega
    have hd : decide (0 < L.length) = true := decide_eq_true h0
    rw [hd]
    clear h hrow hd h0 hgc
    obtain ⟨x, hx⟩ : ∃ x, x = L[0]! := ⟨_, rfl⟩
    rw [← hx] at x0 x1 x2 ⊢
    clear hx
    have zb := Lib.hid (ZB.out x)
    obtain ⟨xi, xb, xs⟩ := x
    simp only [Nat.zero_mul, Nat.zero_add] at x0 x1 x2
    go_enter Try.func18, Try.ntmps18
    go_wp2_with fail
    exact bodyPost_ret (v := .tuple #[itV ⟨xi, xb, xs⟩, .bool true]) (by simp [results, Try.results18, go_sem]) rfl ⟨rfl, zb.out⟩
  · have he : L = [] := List.eq_nil_of_length_eq_zero (by omega)
    subst he
    obtain ⟨ia, ic, pb⟩ := A
    have c1 : w.cell? ⟨hb, 1, none⟩ = some (.slice ia 0 ic) := cell_blk (i := 1) h.box rfl
    clear h h0
    have zb := Lib.hid (ZB.out ⟨0, 0, 0⟩)
    go_enter Try.func18, Try.ntmps18
    go_wp2_with fail
    exact bodyPost_ret (v := .tuple #[itV ⟨0, 0, 0⟩, .bool false]) (by simp [results, Try.results18, go_sem]) rfl ⟨rfl, zb.out⟩
/-- An item's weight at a moment. -/
def wgt (s : Int) (x : It) (now : Int) : Int := x.base * s + min (max now 0) 1099511627776 - x.since
set_option maxRecDepth 100000 in
set_option maxHeartbeats 1000000 in
theorem weightOf_any (w : World) (hb : Nat) (A : HA) (s : Int) (L : List It) (h : HpI w hb A s L) (i now : Int) (hi : (Lit.int .i64 i).wf = true) :
    Calls Try.prog 19 #[pt hb, .int .i64 i, .int .i64 now] w fun e w' => e = .returned (.tuple #[.int .i64 (if hasB L i = true then wgt s (getI L i) now else 0), .bool (hasB L i)]) ∧ Below w.heap.size w w' := by
  have hl := h.lt
  have c0 : w.cell? ⟨hb, 0, none⟩ = some (.int .i64 s) := cell_blk (i := 0) h.box rfl
  have c2 : w.cell? ⟨hb, 2, none⟩ = some (.map (some A.pb)) := cell_blk (i := 2) h.box rfl
  obtain ⟨f, hm, hp⟩ := h.map
  obtain ⟨q, hlk, hq⟩ := hm.look hi
  have hhas := hp.has i
  cases hb' : hasB L i with
  | false =>
    rw [hhas, hb'] at hlk
    rw [if_neg (by decide)]
    have hB := Lib.hid (Below.refl w.heap.size w)
    obtain ⟨ia, ic, pb⟩ := A
    clear h hm hp hq hhas
    go_enter Try.func19, Try.ntmps19
    go_wp2_with fail
    go_ret2
    exact ⟨rfl, hB.out⟩
  | true =>
    rw [hhas, hb'] at hlk
    rw [if_pos rfl]
    rw [hb'] at hhas
    obtain ⟨p, hpl, hpi, hfp⟩ := hp.some hhas
    obtain rfl := hq p hfp
    have hgx : getI L i = L[p]! := by rw [← hpi]; exact hp.get hpl
    obtain ⟨g, B, cur, hA, hgB, hgc, hgh, hgp, hgl, hrow⟩ := h.blk (by omega)
    obtain ⟨ia, ic, pb⟩ := A
    obtain rfl : ia = some ⟨g, 0, none⟩ := hA
    have c1 : w.cell? ⟨hb, 1, none⟩ = some (.slice (some ⟨g, 0, none⟩) L.length ic) := cell_blk (i := 1) h.box rfl
    obtain ⟨⟨x0, x1, x2⟩, -⟩ := row_at hrow hpl rfl
    have hfew := h.few
    have i0 : (0 : Int) ≤ (p : Int) := Int.natCast_nonneg _
    have i1 : (p : Int) < (L.length : Int) := by omega
    rw [hgx]
    have hok := h.ok _ (mem_at hpl)
    have hst := h.step
    obtain ⟨nw, hnw⟩ : ∃ nw, nw = min (max now 0) 1099511627776 := ⟨_, rfl⟩
    have CW := Lib.hid (weight_any w hb s c0 hst.1 hst.2 L[p]! hok nw (by omega) (by omega))
    have HW1 : Hid (wgt s L[p]! now = L[p]!.base * s + nw - L[p]!.since) := Lib.hid (by unfold wgt; rw [hnw])
    rw [HW1.out]
    generalize L[p]!.base * s + nw - L[p]!.since = wv at *
    clear h hm hp hq hhas hrow hgc hok HW1 hpi hgx
    obtain ⟨x, hx⟩ : ∃ x, x = L[p]! := ⟨_, rfl⟩
    rw [← hx] at x0 x1 x2 CW
    clear hx
    obtain ⟨xi, xb, xs⟩ := x
    simp only at x0 x1 x2
    have n1 : Hid (nw = min (max now 0) 1099511627776) := Lib.hid hnw
    clear hnw c0
    rcases (by omega : now < 0 ∨ (0 ≤ now ∧ now ≤ 1099511627776) ∨ 1099511627776 < now) with hn | ⟨hn, hn2⟩ | hn
    · obtain rfl : nw = 0 := (by have := n1.out; omega)
      go_enter Try.func19, Try.ntmps19
      go_wp2_with fail
      refine CW.out.mono ?_
      rintro e w9 ⟨rfl, hb9⟩
      have HB9 := Lib.hid hb9
      clear hb9
      go_wp2_with fail
      go_ret2
      exact ⟨rfl, HB9.out⟩
    · obtain rfl : nw = now := (by have := n1.out; omega)
      have hn3 : ¬ nw < 0 := (by omega)
      go_enter Try.func19, Try.ntmps19
      go_wp2_with fail
      refine CW.out.mono ?_
      rintro e w9 ⟨rfl, hb9⟩
      have HB9 := Lib.hid hb9
      clear hb9
      go_wp2_with fail
      go_ret2
      exact ⟨rfl, HB9.out⟩
    · obtain rfl : nw = 1099511627776 := (by have := n1.out; omega)
      have hn3 : ¬ now < 0 := (by omega)
      have hn4 : ¬ now ≤ 1099511627776 := (by omega)
      go_enter Try.func19, Try.ntmps19
      go_wp2_with fail
      refine CW.out.mono ?_
      rintro e w9 ⟨rfl, hb9⟩
      have HB9 := Lib.hid hb9
      clear hb9
      go_wp2_with fail
      go_ret2
      exact ⟨rfl, HB9.out⟩
end Go.Proofs.Ytcipgjelbnmdiaa.HP
