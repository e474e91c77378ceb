/-
  The document's own heap: Put of anything, Remove.
-/
import Derived.Test.YtcipgjelbnmdiaaHrB
namespace Go.Proofs.Ytcipgjelbnmdiaa.HP
open Go.RowKit Go.Shelf Go.Proofs.Ytcipgjelbnmdiaa.B Go.ChangeMaps
attribute [local go_sem] Oper.semAt_some

theorem putE_le {T : List It} {x : It} (hf : T.length ≤ 1000) (h : putE T x = 0) : OkI x → hasB T x.id = false ∧ T.length < 1000 := by
  intro _
  unfold putE at h
  split at h
  · cases h
  · split at h
    · cases h
    · split at h
      · cases h
      · rename_i h1 h2 h3
        exact ⟨by simpa using h2, by omega⟩
set_option maxRecDepth 100000 in
set_option maxHeartbeats 4000000 in
theorem rput_any (w : World) (rb c : Nat) (A : Option Addr) (s : Int) (T : List It) (h : RH w rb A c s T) (x : It) (hid : (Lit.int .i64 x.id).wf = true) :
    Calls Try.prog 13 #[pt rb, itV x] w fun e w' => e = .returned (.int .i64 (putE T x)) ∧ ∃ A' c', RP w rb A c T.length w' A' c' s (if putE T x = 0 then insI s T x else T) := by
  by_cases hok : okB x = true
  · have hO : OkI x := by
      have := of_decide_eq_true hok
      exact ⟨hid, ⟨this.1, this.2.1⟩, ⟨this.2.2.1, this.2.2.2⟩⟩
    by_cases hh : hasB T x.id = true
    · have hE : putE T x = 6 := by unfold putE; rw [if_neg (by rw [hok]; decide), if_pos hh]
      rw [hE]
      simp only [show ¬ ((6 : Int) = 0) by decide, if_false]
      obtain ⟨w1, hw1⟩ : ∃ w1, w1 = w.alloc (.cells #[.int .i64 x.id, .int .i64 x.base, .int .i64 x.since] 37) := ⟨_, rfl⟩
      have hb1 : Below w.heap.size w w1 := by rw [hw1]; exact (Below.refl _ _).alloc (Nat.le_refl _) _
      have HRP := Lib.hid (RP.same h hb1)
      obtain ⟨xb, hxb⟩ : ∃ xb, xb = w.heap.size := ⟨_, rfl⟩
      have hx1 : w1.heap[xb]? = some (.cells #[.int .i64 x.id, .int .i64 x.base, .int .i64 x.since] 37 (0, 0)) := by rw [hw1, hxb]; exact heap_new w _
      have CH := Lib.hid (rhas_any w1 rb c A s T (h.below hb1) x.id)
      rw [hh] at CH
      obtain ⟨_, ⟨b0, b1⟩, ⟨b2, b3⟩⟩ := hO
      have p0 : w1.cell? ⟨xb, 0, none⟩ = some (.int .i64 x.id) := cell_blk (i := 0) hx1 rfl
      have p1 : w1.cell? ⟨xb, 1, none⟩ = some (.int .i64 x.base) := cell_blk (i := 1) hx1 rfl
      have p2 : w1.cell? ⟨xb, 2, none⟩ = some (.int .i64 x.since) := cell_blk (i := 2) hx1 rfl
      have hlx1 := blk_lt hx1
      clear h hh hb1 hx1 hok hid hE
      obtain ⟨xi, xbs, xs⟩ := x
      simp only at b0 b1 b2 b3 p0 p1 p2 CH hw1
      have k1 : ¬ xbs < 0 := by omega
      have k2 : ¬ xbs > 9 := by omega
      have k3 : ¬ xs < 0 := by omega
      have k4 : ¬ xs > 1099511627776 := by omega
      go_enter Try.func13, Try.ntmps13
      go_upto_region 1 with fail
      rw [← hw1, ← hxb]
      clear hw1 hxb
      go_wp2_with fail
      refine CH.out.mono ?_
      rintro e w2 ⟨rfl, hw⟩
      subst hw
      go_wp2_with fail
      go_ret
      exact ⟨rfl, _, _, HRP.out⟩
    · have hh2 : hasB T x.id = false := by simpa using hh
      by_cases hm : T.length = 1000
      · have hE : putE T x = 4 := by unfold putE; rw [if_neg (by rw [hok]; decide), if_neg hh, if_pos hm]
        rw [hE]
        simp only [show ¬ ((4 : Int) = 0) by decide, if_false]
        obtain ⟨w1, hw1⟩ : ∃ w1, w1 = w.alloc (.cells #[.int .i64 x.id, .int .i64 x.base, .int .i64 x.since] 37) := ⟨_, rfl⟩
        have hb1 : Below w.heap.size w w1 := by rw [hw1]; exact (Below.refl _ _).alloc (Nat.le_refl _) _
        have HRP := Lib.hid (RP.same h hb1)
        obtain ⟨xb, hxb⟩ : ∃ xb, xb = w.heap.size := ⟨_, rfl⟩
        have hx1 : w1.heap[xb]? = some (.cells #[.int .i64 x.id, .int .i64 x.base, .int .i64 x.since] 37 (0, 0)) := by rw [hw1, hxb]; exact heap_new w _
        have CH := Lib.hid (rhas_any w1 rb c A s T (h.below hb1) x.id)
        rw [hh2] at CH
        obtain ⟨_, ⟨b0, b1⟩, ⟨b2, b3⟩⟩ := hO
        have c1 : w1.cell? ⟨rb, 1, none⟩ = some (.slice A T.length c) := cell_blk (i := 1) (h.below hb1).box rfl
        have hl1 := (h.below hb1).lt
        have p0 : w1.cell? ⟨xb, 0, none⟩ = some (.int .i64 x.id) := cell_blk (i := 0) hx1 rfl
        have p1 : w1.cell? ⟨xb, 1, none⟩ = some (.int .i64 x.base) := cell_blk (i := 1) hx1 rfl
        have p2 : w1.cell? ⟨xb, 2, none⟩ = some (.int .i64 x.since) := cell_blk (i := 2) hx1 rfl
        have hlx1 := blk_lt hx1
        clear h hh hh2 hb1 hx1 hok hid hE
        obtain ⟨xi, xbs, xs⟩ := x
        simp only at b0 b1 b2 b3 p0 p1 p2 CH hw1
        have k1 : ¬ xbs < 0 := by omega
        have k2 : ¬ xbs > 9 := by omega
        have k3 : ¬ xs < 0 := by omega
        have k4 : ¬ xs > 1099511627776 := by omega
        have k5 : (T.length : Int) ≥ 1000 := by omega
        clear hm
        go_enter Try.func13, Try.ntmps13
        go_upto_region 1 with fail
        rw [← hw1, ← hxb]
        clear hw1 hxb
        go_wp2_with fail
        refine CH.out.mono ?_
        rintro e w2 ⟨rfl, hw⟩
        subst hw
        go_wp2_with fail
        go_ret
        exact ⟨rfl, _, _, HRP.out⟩
      · have hE : putE T x = 0 := by unfold putE; rw [if_neg (by rw [hok]; decide), if_neg hh, if_neg hm]
        rw [hE, if_pos rfl]
        exact rput_new w rb c A s T h x hO hh2 (by have := h.few; omega)
  · have hok2 : okB x = false := by simpa using hok
    have hE : putE T x = 3 := by unfold putE; rw [if_pos hok2]
    rw [hE]
    simp only [show ¬ ((3 : Int) = 0) by decide, if_false]
    obtain ⟨w1, hw1⟩ : ∃ w1, w1 = w.alloc (.cells #[.int .i64 x.id, .int .i64 x.base, .int .i64 x.since] 37) := ⟨_, rfl⟩
    have hb1 : Below w.heap.size w w1 := by rw [hw1]; exact (Below.refl _ _).alloc (Nat.le_refl _) _
    have HRP := Lib.hid (RP.same h hb1)
    obtain ⟨xb, hxb⟩ : ∃ xb, xb = w.heap.size := ⟨_, rfl⟩
    have hx1 : w1.heap[xb]? = some (.cells #[.int .i64 x.id, .int .i64 x.base, .int .i64 x.since] 37 (0, 0)) := by rw [hw1, hxb]; exact heap_new w _
    have p0 : w1.cell? ⟨xb, 0, none⟩ = some (.int .i64 x.id) := cell_blk (i := 0) hx1 rfl
    have p1 : w1.cell? ⟨xb, 1, none⟩ = some (.int .i64 x.base) := cell_blk (i := 1) hx1 rfl
    have p2 : w1.cell? ⟨xb, 2, none⟩ = some (.int .i64 x.since) := cell_blk (i := 2) hx1 rfl
    have hlx1 := blk_lt hx1
    have hor := of_decide_eq_false hok2
    clear h hb1 hx1 hok hok2 hid hE
    obtain ⟨xi, xbs, xs⟩ := x
    simp only at p0 p1 p2 hw1 hor
    by_cases k1 : xbs < 0
    · clear hor
      go_enter Try.func13, Try.ntmps13
      go_upto_region 1 with fail
      rw [← hw1, ← hxb]
      clear hw1 hxb
      go_wp2_with fail
      go_ret
      exact ⟨rfl, _, _, HRP.out⟩
    · by_cases k2 : xbs > 9
      · clear hor
        go_enter Try.func13, Try.ntmps13
        go_upto_region 1 with fail
        rw [← hw1, ← hxb]
        clear hw1 hxb
        go_wp2_with fail
        go_ret
        exact ⟨rfl, _, _, HRP.out⟩
      · by_cases k3 : xs < 0
        · clear hor
          go_enter Try.func13, Try.ntmps13
          go_upto_region 1 with fail
          rw [← hw1, ← hxb]
          clear hw1 hxb
          go_wp2_with fail
          go_ret
          exact ⟨rfl, _, _, HRP.out⟩
        · have k4 : xs > 1099511627776 := by omega
          clear hor
          go_enter Try.func13, Try.ntmps13
          go_upto_region 1 with fail
          rw [← hw1, ← hxb]
          clear hw1 hxb
          go_wp2_with fail
          go_ret
          exact ⟨rfl, _, _, HRP.out⟩
/-- One is taken out of the list. -/
theorem rm_split {T : List It} (hd : DI T) {k : Nat} (hk : k < T.length) : rmI T T[k]!.id = T.take k ++ T.drop (k + 1) := by
  unfold rmI DI at *
  induction T generalizing k with
  | nil => simp at hk
  | cons a r ih =>
    rw [List.pairwise_cons] at hd
    cases k with
    | zero =>
      have e0 : (a :: r)[0]! = a := rfl
      rw [e0]
      simp only [List.take_zero, List.nil_append, Nat.zero_add, List.drop_succ_cons, List.drop_zero]
      rw [List.filter_cons_of_neg (by simp)]
      exact List.filter_eq_self.2 (fun y hy => by simpa using Ne.symm (hd.1 y hy))
    | succ k =>
      have hk2 : k < r.length := by simpa using hk
      have e0 : (a :: r)[k + 1]! = r[k]! := by rw [getElem!_pos _ (k + 1) hk, getElem!_pos r k hk2]; rfl
      rw [e0, List.filter_cons_of_pos (by simpa using hd.1 _ (mem_at hk2)), ih hd.2 hk2]
      rfl
end Go.Proofs.Ytcipgjelbnmdiaa.HP
