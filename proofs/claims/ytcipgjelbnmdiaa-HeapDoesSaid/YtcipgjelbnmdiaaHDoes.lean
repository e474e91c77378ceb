/-
  HeapDoes: whatever is put and taken, each answer, all in order, and weights, are as the document says, act by act; no condition.
-/
import Derived.Test.YtcipgjelbnmdiaaHrE
import Derived.Deep.CutBlock
import Derived.Deep.CutRange
import Derived.ShutString
namespace Go.Proofs.Ytcipgjelbnmdiaa.HDoes
open Go.RowKit Go.Shelf Go.Deep Go.Joins Go.ChangeShapes Go.WideShapes Go.ChangeMaps Go.Proofs.Ytcipgjelbnmdiaa.B Go.Proofs.Ytcipgjelbnmdiaa.HP Go.Proofs.Ytcipgjelbnmdiaa.OP
attribute [local go_sem] Oper.semAt_some

set_option maxRecDepth 100000 in
set_option maxHeartbeats 16000000 in
theorem walk (W : World) (st now : Int) (A : Option Addr) (c1 : Nat) (l : List Ac) (hr : Row W A (l.flatMap acC)) (hg : ∀ x ∈ l, goodA x) :
    Calls Try.prog 3 #[.int .i64 st, .slice A l.length c1, .int .i64 now] W fun e W' => e = .returned (.bool true) ∧ Below W.heap.size W W' := by
  have CA := Lib.hid (awake_any W)
  have HR_l := Lib.hid hr
  have HG := Lib.hid hg
  clear hr hg
  go_enter Try.func3, Try.ntmps3
  go_wp2_with fail
  refine CA.out.mono ?_
  rintro e W1 ⟨rfl, hb1⟩
  have HB1 := Lib.hid hb1
  clear hb1 CA
  by_cases hn : st < 1 ∨ 1048576 < st
  · go_wp2_with fail
    refine (new_no W1 st hn).mono ?_
    rintro e W2 ⟨rfl, hw⟩
    subst hw
    go_wp2_with fail
    refine (rnew_no W1 st hn).mono ?_
    rintro e W2 ⟨rfl, hw⟩
    subst hw
    clear hn
    go_wp2_with fail
    go_loopw [11] (fun i wr => i = .int .i64 0 ∧ wr = W1) (fun _ _ => 0)
    case atStart => exact ⟨rfl, rfl⟩
    case round =>
      obtain ⟨rfl, rfl⟩ := hrel
      by_cases hl : 0 < l.length
      · have hl1 : (0 : Int) < (l.length : Int) := by omega
        go_wp2_with fail
        go_ret
        exact ⟨rfl, HB1.out⟩
      · have hl1 : ¬ (0 : Int) < (l.length : Int) := by omega
        go_wp2_with fail
        go_ret
        exact ⟨rfl, HB1.out⟩
  · have hn1 : 1 ≤ st := by omega
    have hn2 : st ≤ 1048576 := by omega
    clear hn
    obtain ⟨s, hs⟩ : ∃ s, s = st := ⟨_, rfl⟩
    rw [← hs] at hn1 hn2 ⊢
    clear hs
    have CN := Lib.hid (new_yes W1 s hn1 hn2 (fun _ => False))
    have CM := Lib.hid (fun W2 => rnew_yes W2 s hn1 hn2)
    clear hn1 hn2
    go_wp2_with fail
    refine CN.out.mono ?_
    rintro e W2 ⟨rfl, hb2, hw2⟩
    obtain ⟨hb, hhb⟩ : ∃ hb, hb = W1.heap.size + 1 := ⟨_, rfl⟩
    rw [← hhb] at hw2 ⊢
    have hH2 : HS ⟨W1, fun _ => False⟩ W2 hb s [] := ⟨⟨_, [], List.Perm.refl _, fun j h1 h2 => (by simp at h2), hw2⟩, List.Pairwise.nil⟩
    have HH2 := Lib.hid hH2
    have HB2 := Lib.hid hb2
    clear hw2 hhb CN hb2 hH2
    go_wp2_with fail
    refine (CM.out W2).mono ?_
    rintro e W3 ⟨rfl, hr3, hb3⟩
    obtain ⟨rb, hrb⟩ : ∃ rb, rb = W2.heap.size := ⟨_, rfl⟩
    rw [← hrb] at hr3 ⊢
    have HI0 : Hid (DR W [] hb rb s [] [] W3) := Lib.hid ⟨(HB1.out.trans (HB2.out.mono HB1.out.size)).trans (hb3.mono (Nat.le_trans HB1.out.size HB2.out.size)), ⟨fun q => W1.heap.size ≤ q ∧ q < W2.heap.size, none, 0, HH2.out.reb (fun q hq hl => by
      rcases hq with hq | hq
      · exact hq.elim
      · exact ⟨hq, hl⟩) (fun q _ hl => hb3.block q hl), hr3, fun hx => by have := hx.2; omega, fun q hq => (by cases hq), fun q hq => ⟨Nat.le_trans HB1.out.size hq.1, Nat.lt_of_lt_of_le hq.2 hb3.size⟩, fun q hq => by cases hq⟩, by have h1 := HB1.out.size; have h2 := HB2.out.size; omega⟩
    clear hr3 hb3 hrb HH2 HB2 CM HB1
    go_wp2_with fail
    go_loopw [11] (fun i wr => ∃ (k : Nat) (S : List It), k ≤ l.length ∧ k ≤ 200 ∧ i = .int .i64 (k : Int) ∧ Hid (DR W [] hb rb s S S wr)) (fun i _ => 200 - (intOf i).toNat)
    case atStart => exact ⟨0, [], Nat.zero_le _, Nat.zero_le _, rfl, HI0⟩
    case round =>
      clear HI0
      obtain ⟨k, S, hk, hk1, rfl, HI⟩ := hrel
      have hk0 : (0 : Int) ≤ (k : Int) := Int.natCast_nonneg _
      by_cases hgo : k < l.length ∧ k < 200
      · obtain ⟨hlt, hk4⟩ := hgo
        have hlt1 : (k : Int) < (l.length : Int) := by omega
        have hlt2 : decide ((k : Int) < (l.length : Int)) = true := decide_eq_true hlt1
        have hk5 : (k : Int) < 200 := by omega
        obtain ⟨bk, off, hA, hbk, c0⟩ := (HR_l.out.below (Nat.le_refl _) HI.out.b).at_ (k := 4) (fun _ => rfl) (by omega) hlt
        have x0 : wr.cell? ⟨bk, off + k * 4, none⟩ = some (.int .i64 l[k]!.kind) := by have := c0 0 _ rfl; rw [Nat.add_zero] at this; exact this
        have x1 : wr.cell? ⟨bk, off + k * 4 + 1, none⟩ = some (.int .i64 l[k]!.x.id) := c0 1 _ rfl
        have x2 : wr.cell? ⟨bk, off + k * 4 + 2, none⟩ = some (.int .i64 l[k]!.x.base) := c0 2 _ rfl
        have x3 : wr.cell? ⟨bk, off + k * 4 + 3, none⟩ = some (.int .i64 l[k]!.x.since) := c0 3 _ rfl
        obtain rfl : A = some ⟨bk, off, none⟩ := hA
        have HGX := Lib.hid (HG.out _ (mem_at hlt))
        obtain ⟨x, hx⟩ : ∃ x, x = l[k]! := ⟨_, rfl⟩
        rw [← hx] at x0 x1 x2 x3 HGX
        clear hx c0
        obtain ⟨xk, ⟨xi, xb, xs⟩⟩ := x
        simp only at x0 x1 x2 x3
        obtain ⟨wa, hwa⟩ : ∃ wa, wa = wr.alloc (.cells #[.int .i64 xk, .int .i64 xi, .int .i64 xb, .int .i64 xs] 34) := ⟨_, rfl⟩
        obtain ⟨ab, hab⟩ : ∃ ab, ab = wr.heap.size := ⟨_, rfl⟩
        have hza := heap_new wr (.cells #[.int .i64 xk, .int .i64 xi, .int .i64 xb, .int .i64 xs] 34)
        rw [← hwa, ← hab] at hza
        have HIA := Lib.hid (HI.out.add (.cells #[.int .i64 xk, .int .i64 xi, .int .i64 xb, .int .i64 xs] 34))
        rw [← hwa, ← hab] at HIA
        have HZA : Hid (wa.heap[ab]? = some (.cells #[.int .i64 xk, .int .i64 xi, .int .i64 xb, .int .i64 xs] 34 (0, 0))) := Lib.hid hza
        go_upto_region 11 with fail
        rw [← hwa, ← hab]
        clear hwa hab x0 x1 x2 x3 hza HI
        have HI := HIA
        clear HIA
        have x0 : wa.cell? ⟨ab, 0, none⟩ = some (.int .i64 xk) := cell_blk (i := 0) HZA.out rfl
        have x1 : wa.cell? ⟨ab, 1, none⟩ = some (.int .i64 xi) := cell_blk (i := 1) HZA.out rfl
        have x2 : wa.cell? ⟨ab, 2, none⟩ = some (.int .i64 xb) := cell_blk (i := 2) HZA.out rfl
        have x3 : wa.cell? ⟨ab, 3, none⟩ = some (.int .i64 xs) := cell_blk (i := 3) HZA.out rfl
        have xl := blk_lt HZA.out
        go_upto_block 2 with fail
        go_cut [13, 14, 15, 16, 17, 18, 19, 20] from 73 to 134 (fun _ _ _ _ _ _ _ _ wx => ∃ S2 : List It, Hid (DR W [] hb rb s S2 S2 wx) ∧ Hid (wx.heap[ab]? = some (.cells #[.int .i64 xk, .int .i64 xi, .int .i64 xb, .int .i64 xs] 34 (0, 0))))
        case first =>
          by_cases k0 : xk = 0
          · have kb0 : (xk == 0) = true := by rw [k0]; rfl
            clear k0
            have S0 : Hid (wa.drew.heap[ab]? = some (.cells #[.int .i64 xk, .int .i64 xi, .int .i64 xb, .int .i64 xs] 34 (0, 0))) := Lib.hid HZA.out
            have CP1 := Lib.hid (d_put HI.out.drew ⟨xi, xb, xs⟩ HGX.out.2.1)
            clear x0 x1 x2 x3 xl
            go_upto_region 13 with fail
            refine wp_region_T (S := fun W => W.heap[ab]? = some (.cells #[.int .i64 xk, .int .i64 xi, .int .i64 xb, .int .i64 xs] 34 (0, 0))) (z := 100) (by kernel_rfl) ?_
            refine anyT_takeU (i := 0) (v := ?_) (by decide) rfl (by kernel_rfl) (by kernel_rfl) (by kernel_rfl) (fun _ _ _ h => h) S0.out (by rfl) ?_ ?_
            rotate_left
            · intro W9 hSw
              have c1 : W9.cell? ⟨ab, 1, none⟩ = some (.int .i64 xi) := cell_blk (i := 1) hSw rfl
              have c2 : W9.cell? ⟨ab, 2, none⟩ = some (.int .i64 xb) := cell_blk (i := 2) hSw rfl
              have c3 : W9.cell? ⟨ab, 3, none⟩ = some (.int .i64 xs) := cell_blk (i := 3) hSw rfl
              have cl := blk_lt hSw
              clear hSw
              go_simp
              try with_reducible rfl
            simp only [Act.put, List.setIfInBounds_toArray]
            try simp only [List.set]
            try simp only [List.set]
            try simp only [List.getElem_toArray]
            repeat (first | simp only [List.getElem_cons_zero] | simp only [List.getElem_cons_succ])
            refine anyT_takeU (i := 1) (v := ?_) (by decide) rfl (by kernel_rfl) (by kernel_rfl) (by kernel_rfl) (fun _ _ _ h => h) S0.out (by rfl) ?_ ?_
            rotate_left
            · intro W9 hSw
              have c1 : W9.cell? ⟨ab, 1, none⟩ = some (.int .i64 xi) := cell_blk (i := 1) hSw rfl
              have c2 : W9.cell? ⟨ab, 2, none⟩ = some (.int .i64 xb) := cell_blk (i := 2) hSw rfl
              have c3 : W9.cell? ⟨ab, 3, none⟩ = some (.int .i64 xs) := cell_blk (i := 3) hSw rfl
              have cl := blk_lt hSw
              clear hSw
              go_simp
              try with_reducible rfl
            simp only [Act.put, List.setIfInBounds_toArray]
            try simp only [List.set]
            try simp only [List.set]
            try simp only [List.getElem_toArray]
            repeat (first | simp only [List.getElem_cons_zero] | simp only [List.getElem_cons_succ])
            refine anyT_takeU (i := 2) (v := ?_) (by decide) rfl (by kernel_rfl) (by kernel_rfl) (by kernel_rfl) (fun _ _ _ h => h) S0.out (by rfl) ?_ ?_
            rotate_left
            · intro W9 hSw
              have c1 : W9.cell? ⟨ab, 1, none⟩ = some (.int .i64 xi) := cell_blk (i := 1) hSw rfl
              have c2 : W9.cell? ⟨ab, 2, none⟩ = some (.int .i64 xb) := cell_blk (i := 2) hSw rfl
              have c3 : W9.cell? ⟨ab, 3, none⟩ = some (.int .i64 xs) := cell_blk (i := 3) hSw rfl
              have cl := blk_lt hSw
              clear hSw
              go_simp
              try with_reducible rfl
            simp only [Act.put, List.setIfInBounds_toArray]
            try simp only [List.set]
            try simp only [List.set]
            try simp only [List.getElem_toArray]
            repeat (first | simp only [List.getElem_cons_zero] | simp only [List.getElem_cons_succ])
            refine anyT_takeU (i := 4) (v := ?_) (by decide) rfl (by kernel_rfl) (by kernel_rfl) (by kernel_rfl) (fun _ _ _ h => h) S0.out (by rfl) ?_ ?_
            rotate_left
            · intro W9 hSw
              have c1 : W9.cell? ⟨ab, 1, none⟩ = some (.int .i64 xi) := cell_blk (i := 1) hSw rfl
              have c2 : W9.cell? ⟨ab, 2, none⟩ = some (.int .i64 xb) := cell_blk (i := 2) hSw rfl
              have c3 : W9.cell? ⟨ab, 3, none⟩ = some (.int .i64 xs) := cell_blk (i := 3) hSw rfl
              have cl := blk_lt hSw
              clear hSw
              go_simp
              try with_reducible rfl
            simp only [Act.put, List.setIfInBounds_toArray]
            try simp only [List.set]
            try simp only [List.set]
            try simp only [List.getElem_toArray]
            repeat (first | simp only [List.getElem_cons_zero] | simp only [List.getElem_cons_succ])
            refine anyT_takeU (i := 5) (v := ?_) (by decide) rfl (by kernel_rfl) (by kernel_rfl) (by kernel_rfl) (fun _ _ _ h => h) S0.out (by rfl) ?_ ?_
            rotate_left
            · intro W9 hSw
              have c1 : W9.cell? ⟨ab, 1, none⟩ = some (.int .i64 xi) := cell_blk (i := 1) hSw rfl
              have c2 : W9.cell? ⟨ab, 2, none⟩ = some (.int .i64 xb) := cell_blk (i := 2) hSw rfl
              have c3 : W9.cell? ⟨ab, 3, none⟩ = some (.int .i64 xs) := cell_blk (i := 3) hSw rfl
              have cl := blk_lt hSw
              clear hSw
              go_simp
              try with_reducible rfl
            simp only [Act.put, List.setIfInBounds_toArray]
            try simp only [List.set]
            try simp only [List.set]
            try simp only [List.getElem_toArray]
            repeat (first | simp only [List.getElem_cons_zero] | simp only [List.getElem_cons_succ])
            refine anyT_takeU (i := 6) (v := ?_) (by decide) rfl (by kernel_rfl) (by kernel_rfl) (by kernel_rfl) (fun _ _ _ h => h) S0.out (by rfl) ?_ ?_
            rotate_left
            · intro W9 hSw
              have c1 : W9.cell? ⟨ab, 1, none⟩ = some (.int .i64 xi) := cell_blk (i := 1) hSw rfl
              have c2 : W9.cell? ⟨ab, 2, none⟩ = some (.int .i64 xb) := cell_blk (i := 2) hSw rfl
              have c3 : W9.cell? ⟨ab, 3, none⟩ = some (.int .i64 xs) := cell_blk (i := 3) hSw rfl
              have cl := blk_lt hSw
              clear hSw
              go_simp
              try with_reducible rfl
            simp only [Act.put, List.setIfInBounds_toArray]
            try simp only [List.set]
            try simp only [List.set]
            try simp only [List.getElem_toArray]
            repeat (first | simp only [List.getElem_cons_zero] | simp only [List.getElem_cons_succ])
            refine anyT_one' (i := 3) (by kernel_rfl) rfl (by rfl) (fun K hK => ?_)
            have HK := Lib.hid hK
            clear hK
            unfold Oper.wp
            go_simp
            refine CP1.out.mono ?_
            rintro e9 w2 ⟨rfl, hh2, hs2⟩
            have HI2 := Lib.hid hh2
            have S1 := Lib.hid ((hs2 ab (by simp)).trans S0.out)
            have CP2 := Lib.hid (e_put hh2 ⟨xi, xb, xs⟩ HGX.out.2.1)
            clear hh2 hs2
            obtain ⟨E, hE⟩ : ∃ E, E = putE S ⟨xi, xb, xs⟩ := ⟨_, rfl⟩
            rw [← hE] at CP2 HI2 ⊢
            clear hE
            dsimp only
            refine HK.out _ _ (fun _ => S1.out) ?_
            clear HK K
            refine anyT_one' (i := 7) (by kernel_rfl) rfl (by rfl) (fun K hK => ?_)
            have HK := Lib.hid hK
            clear hK
            unfold Oper.wp
            go_simp
            refine CP2.out.mono ?_
            rintro e9 w3 ⟨rfl, hh3, hs3⟩
            have HI3 := Lib.hid hh3
            have HZ9 := Lib.hid ((hs3 ab (by simp)).trans S1.out)
            clear hh3 hs3
            dsimp only
            refine HK.out _ _ (fun _ => HZ9.out) ?_
            clear HK K
            refine anyT_one' (i := 8) (by kernel_rfl) rfl (by rfl) (fun K hK => ?_)
            have HK := Lib.hid hK
            clear hK
            unfold Oper.wp
            go_simp
            refine HK.out _ _ (fun _ => HZ9.out) ?_
            clear HK K
            refine anyT_done (by kernel_rfl) ?_ _
            have HJ := Lib.hid HI3.out.none
            generalize (if E = 0 then insI s S ⟨xi, xb, xs⟩ else S) = S2 at *
            go_wp2_with fail
            go_meet
            exact ⟨S2, HJ, HZ9⟩
          · have kb0 : (xk == 0) = false := beq_eq_false_iff_ne.2 k0
            by_cases k1 : xk = 1
            · have kb1 : (xk == 1) = true := by rw [k1]; rfl
              clear k1
              obtain ⟨p, hp⟩ : ∃ p, p = S[0]! := ⟨_, rfl⟩
              have CP := Lib.hid (d_pop HI.out)
              rw [← hp] at CP
              have HPX := Lib.hid hp
              have HDI := Lib.hid HI.out.di
              clear hp
              obtain ⟨pi, pb, ps⟩ := p
              go_wp2_with fail
              refine CP.out.mono ?_
              rintro e9 w2 ⟨rfl, hh2, hs2⟩
              have HI2 := Lib.hid hh2
              have HZ2 := Lib.hid ((hs2 ab (by simp)).trans HZA.out)
              clear hh2 hs2 CP
              obtain ⟨w3, hw3⟩ : ∃ w3, w3 = w2.alloc (.cells #[.int .i64 pi, .int .i64 pb, .int .i64 ps] 32) := ⟨_, rfl⟩
              obtain ⟨b13, hb13⟩ : ∃ b13, b13 = w2.heap.size := ⟨_, rfl⟩
              have hw3n : w3.heap[b13]? = some (.cells #[.int .i64 pi, .int .i64 pb, .int .i64 ps] 32 (0, 0)) := by rw [hw3, hb13]; exact heap_new w2 _
              have hbw3 : Below w2.heap.size w2 w3 := by rw [hw3]; exact (Below.refl _ _).alloc (Nat.le_refl _) _
              have HI3 := Lib.hid (HI2.out.add (.cells #[.int .i64 pi, .int .i64 pb, .int .i64 ps] 32))
              rw [← hw3, ← hb13] at HI3
              have HNw3 := Lib.hid hw3n
              have HBBw3 := Lib.hid hbw3
              clear hw3n hbw3
              have HZ3 := Lib.hid ((HBBw3.out.block ab (blk_lt HZ2.out)).trans HZ2.out)
              have CK := Lib.hid (e_peek HI3.out)
              rw [← HPX.out] at CK
              clear x0 x1 x2 x3 xl
              go_upto_region 17 with fail
              rw [← hw3, ← hb13]
              clear hw3 hb13
              go_wp2_with fail
              refine CK.out.mono ?_
              rintro e9 w4 ⟨rfl, hh4, hb4⟩
              have HI4 := Lib.hid hh4
              have HZ4 := Lib.hid ((hb4.block ab (blk_lt HZ3.out)).trans HZ3.out)
              have HN4 := Lib.hid ((hb4.block b13 (blk_lt HNw3.out)).trans HNw3.out)
              clear hh4 hb4 CK
              obtain ⟨w5, hw5⟩ : ∃ w5, w5 = w4.alloc (.cells #[.int .i64 pi, .int .i64 pb, .int .i64 ps] 37) := ⟨_, rfl⟩
              obtain ⟨b15, hb15⟩ : ∃ b15, b15 = w4.heap.size := ⟨_, rfl⟩
              have hw5n : w5.heap[b15]? = some (.cells #[.int .i64 pi, .int .i64 pb, .int .i64 ps] 37 (0, 0)) := by rw [hw5, hb15]; exact heap_new w4 _
              have hbw5 : Below w4.heap.size w4 w5 := by rw [hw5]; exact (Below.refl _ _).alloc (Nat.le_refl _) _
              have HI5 := Lib.hid (HI4.out.add (.cells #[.int .i64 pi, .int .i64 pb, .int .i64 ps] 37))
              rw [← hw5, ← hb15] at HI5
              have HNw5 := Lib.hid hw5n
              have HBBw5 := Lib.hid hbw5
              clear hw5n hbw5
              have HZ5 := Lib.hid ((HBBw5.out.block ab (blk_lt HZ4.out)).trans HZ4.out)
              have HN5 := Lib.hid ((HBBw5.out.block b13 (blk_lt HN4.out)).trans HN4.out)
              have HM5 := HNw5
              go_upto_region 18 with fail
              rw [← hw5, ← hb15]
              clear hw5 hb15
              by_cases hl : 0 < S.length
              · have hd : decide (0 < S.length) = true := decide_eq_true hl
                rw [hd]
                have hid : pi = S[0]!.id := by rw [← HPX.out]
                have CR := Lib.hid (e_rem HI5.out HDI.out pi)
                have hrm : rmI S pi = S.tail := by rw [hid]; exact rm_first HDI.out hl
                rw [hrm] at CR
                have z0 : w5.cell? ⟨b15, 0, none⟩ = some (.int .i64 pi) := cell_blk (i := 0) HM5.out rfl
                have zl := blk_lt HM5.out
                clear hd hid hrm
                go_wp2_with fail
                refine CR.out.mono ?_
                rintro e9 w6 ⟨rfl, hh6, hs6⟩
                have HJ := Lib.hid hh6.none
                have HZ9 := Lib.hid ((hs6 ab (by simp)).trans HZ5.out)
                have h13 := (hs6 b13 (by simp)).trans HN5.out
                have h15 := (hs6 b15 (by simp)).trans HM5.out
                have u0 : w6.cell? ⟨b13, 0, none⟩ = some (.int .i64 pi) := cell_blk (i := 0) h13 rfl
                have u1 : w6.cell? ⟨b13, 1, none⟩ = some (.int .i64 pb) := cell_blk (i := 1) h13 rfl
                have u2 : w6.cell? ⟨b13, 2, none⟩ = some (.int .i64 ps) := cell_blk (i := 2) h13 rfl
                have v0 : w6.cell? ⟨b15, 0, none⟩ = some (.int .i64 pi) := cell_blk (i := 0) h15 rfl
                have v1 : w6.cell? ⟨b15, 1, none⟩ = some (.int .i64 pb) := cell_blk (i := 1) h15 rfl
                have v2 : w6.cell? ⟨b15, 2, none⟩ = some (.int .i64 ps) := cell_blk (i := 2) h15 rfl
                have ul := blk_lt h13
                have vl := blk_lt h15
                clear h13 h15
                clear hh6 hs6 CR z0 zl
                obtain ⟨S2, hS2⟩ : ∃ S2, S2 = S.tail := ⟨_, rfl⟩
                rw [← hS2] at HJ
                clear hS2
                go_wp2_with fail
                go_meet
                exact ⟨S2, HJ, HZ9⟩
              · have hd : decide (0 < S.length) = false := decide_eq_false hl
                rw [hd]
                have he : S.tail = S := by
                  have : S = [] := List.eq_nil_of_length_eq_zero (by omega)
                  rw [this]; rfl
                have HJ := Lib.hid HI5.out.none
                rw [he] at HJ
                have HZ9 := HZ5
                have h13 := HN5.out
                have h15 := HM5.out
                have u0 : w5.cell? ⟨b13, 0, none⟩ = some (.int .i64 pi) := cell_blk (i := 0) h13 rfl
                have u1 : w5.cell? ⟨b13, 1, none⟩ = some (.int .i64 pb) := cell_blk (i := 1) h13 rfl
                have u2 : w5.cell? ⟨b13, 2, none⟩ = some (.int .i64 ps) := cell_blk (i := 2) h13 rfl
                have v0 : w5.cell? ⟨b15, 0, none⟩ = some (.int .i64 pi) := cell_blk (i := 0) h15 rfl
                have v1 : w5.cell? ⟨b15, 1, none⟩ = some (.int .i64 pb) := cell_blk (i := 1) h15 rfl
                have v2 : w5.cell? ⟨b15, 2, none⟩ = some (.int .i64 ps) := cell_blk (i := 2) h15 rfl
                have ul := blk_lt h13
                have vl := blk_lt h15
                clear h13 h15
                clear hd he
                obtain ⟨S2, hS2⟩ : ∃ S2, S2 = S := ⟨_, rfl⟩
                rw [← hS2] at HJ
                clear hS2
                go_wp2_with fail
                go_meet
                exact ⟨S2, HJ, HZ9⟩
            · have kb1 : (xk == 1) = false := beq_eq_false_iff_ne.2 k1
              by_cases k2 : xk = 2
              · have kb2 : (xk == 2) = true := by rw [k2]; rfl
                clear k2
                obtain ⟨p, hp⟩ : ∃ p, p = getI S xi := ⟨_, rfl⟩
                have CP := Lib.hid (d_rem HI.out xi HGX.out.2.1)
                rw [← hp] at CP
                have HPX := Lib.hid hp
                have HDI := Lib.hid HI.out.di
                clear hp
                obtain ⟨pi, pb, ps⟩ := p
                obtain ⟨hz, hhz⟩ : ∃ hz, hz = HP.hasB S xi := ⟨_, rfl⟩
                rw [← hhz] at CP
                have HHZ := Lib.hid hhz
                clear hhz
                go_wp2_with fail
                refine CP.out.mono ?_
                rintro e9 w2 ⟨rfl, hh2, hs2⟩
                have HI2 := Lib.hid hh2
                have HZ2 := Lib.hid ((hs2 ab (by simp)).trans HZA.out)
                clear hh2 hs2 CP
                obtain ⟨w3, hw3⟩ : ∃ w3, w3 = w2.alloc (.cells #[.int .i64 pi, .int .i64 pb, .int .i64 ps] 32) := ⟨_, rfl⟩
                obtain ⟨b13, hb13⟩ : ∃ b13, b13 = w2.heap.size := ⟨_, rfl⟩
                have hw3n : w3.heap[b13]? = some (.cells #[.int .i64 pi, .int .i64 pb, .int .i64 ps] 32 (0, 0)) := by rw [hw3, hb13]; exact heap_new w2 _
                have hbw3 : Below w2.heap.size w2 w3 := by rw [hw3]; exact (Below.refl _ _).alloc (Nat.le_refl _) _
                have HI3 := Lib.hid (HI2.out.add (.cells #[.int .i64 pi, .int .i64 pb, .int .i64 ps] 32))
                rw [← hw3, ← hb13] at HI3
                have HNw3 := Lib.hid hw3n
                have HBBw3 := Lib.hid hbw3
                clear hw3n hbw3
                have HZ3 := Lib.hid ((HBBw3.out.block ab (blk_lt HZ2.out)).trans HZ2.out)
                have CK := Lib.hid (e_rem HI3.out HDI.out xi)
                rw [← HPX.out, ← HHZ.out] at CK
                clear x0 x1 x2 x3 xl
                go_upto_region 24 with fail
                rw [← hw3, ← hb13]
                clear hw3 hb13
                have x0 : w3.cell? ⟨ab, 0, none⟩ = some (.int .i64 xk) := cell_blk (i := 0) HZ3.out rfl
                have x1 : w3.cell? ⟨ab, 1, none⟩ = some (.int .i64 xi) := cell_blk (i := 1) HZ3.out rfl
                have x2 : w3.cell? ⟨ab, 2, none⟩ = some (.int .i64 xb) := cell_blk (i := 2) HZ3.out rfl
                have x3 : w3.cell? ⟨ab, 3, none⟩ = some (.int .i64 xs) := cell_blk (i := 3) HZ3.out rfl
                have xl := blk_lt HZ3.out
                go_wp2_with fail
                refine CK.out.mono ?_
                rintro e9 w4 ⟨rfl, hh4, hs4⟩
                have HI4 := Lib.hid hh4
                have HZ4 := Lib.hid ((hs4 ab (by simp)).trans HZ3.out)
                have HN4 := Lib.hid ((hs4 b13 (by simp)).trans HNw3.out)
                clear hh4 hs4 CK
                obtain ⟨w5, hw5⟩ : ∃ w5, w5 = w4.alloc (.cells #[.int .i64 pi, .int .i64 pb, .int .i64 ps] 37) := ⟨_, rfl⟩
                obtain ⟨b15, hb15⟩ : ∃ b15, b15 = w4.heap.size := ⟨_, rfl⟩
                have hw5n : w5.heap[b15]? = some (.cells #[.int .i64 pi, .int .i64 pb, .int .i64 ps] 37 (0, 0)) := by rw [hw5, hb15]; exact heap_new w4 _
                have hbw5 : Below w4.heap.size w4 w5 := by rw [hw5]; exact (Below.refl _ _).alloc (Nat.le_refl _) _
                have HI5 := Lib.hid (HI4.out.add (.cells #[.int .i64 pi, .int .i64 pb, .int .i64 ps] 37))
                rw [← hw5, ← hb15] at HI5
                have HNw5 := Lib.hid hw5n
                have HBBw5 := Lib.hid hbw5
                clear hw5n hbw5
                have HZ9 := Lib.hid ((HBBw5.out.block ab (blk_lt HZ4.out)).trans HZ4.out)
                have h13 := (HBBw5.out.block b13 (blk_lt HN4.out)).trans HN4.out
                have h15 := HNw5.out
                have HJ := Lib.hid HI5.out.none
                have u0 : w5.cell? ⟨b13, 0, none⟩ = some (.int .i64 pi) := cell_blk (i := 0) h13 rfl
                have u1 : w5.cell? ⟨b13, 1, none⟩ = some (.int .i64 pb) := cell_blk (i := 1) h13 rfl
                have u2 : w5.cell? ⟨b13, 2, none⟩ = some (.int .i64 ps) := cell_blk (i := 2) h13 rfl
                have v0 : w5.cell? ⟨b15, 0, none⟩ = some (.int .i64 pi) := cell_blk (i := 0) h15 rfl
                have v1 : w5.cell? ⟨b15, 1, none⟩ = some (.int .i64 pb) := cell_blk (i := 1) h15 rfl
                have v2 : w5.cell? ⟨b15, 2, none⟩ = some (.int .i64 ps) := cell_blk (i := 2) h15 rfl
                have ul := blk_lt h13
                have vl := blk_lt h15
                clear h13 h15
                clear x0 x1 x2 x3 xl
                go_upto_region 25 with fail
                rw [← hw5, ← hb15]
                clear hw5 hb15
                obtain ⟨S2, hS2⟩ : ∃ S2, S2 = rmI S xi := ⟨_, rfl⟩
                rw [← hS2] at HJ
                clear hS2
                have hnn : (hz != hz) = false := by cases hz <;> rfl
                go_wp2_with fail
                go_meet
                exact ⟨S2, HJ, HZ9⟩
              · have kb2 : (xk == 2) = false := beq_eq_false_iff_ne.2 k2
                have HJ := Lib.hid HI.out.none
                have HZ9 := HZA
                clear x0 x1 x2 x3 xl
                obtain ⟨S2, hS2⟩ : ∃ S2, S2 = S := ⟨_, rfl⟩
                rw [← hS2] at HJ
                clear hS2
                go_wp2_with fail
                go_meet
                exact ⟨S2, HJ, HZ9⟩
        case rest =>
          clear HI HZA xl x0 x1 x2 x3
          obtain ⟨S2, HJ, HZ9⟩ := hcut
          obtain ⟨wv, hwv⟩ : ∃ wv, wv = wc := ⟨_, rfl⟩
          rw [← hwv] at HJ HZ9 ⊢
          clear hwv
          have HDI := Lib.hid HJ.out.di
          obtain ⟨p, hp⟩ : ∃ p, p = S2[0]! := ⟨_, rfl⟩
          have CP := Lib.hid (d_peek HJ.out)
          rw [← hp] at CP
          have HPX := Lib.hid hp
          clear hp
          obtain ⟨pi, pb, ps⟩ := p
          obtain ⟨hz, hhz⟩ : ∃ hz, hz = decide (0 < S2.length) := ⟨_, rfl⟩
          rw [← hhz] at CP
          have HHZ := Lib.hid hhz
          clear hhz
          go_wp2_with fail
          refine CP.out.mono ?_
          rintro e9 w2 ⟨rfl, hh2, hb2⟩
          have HI2 := Lib.hid hh2
          have HZ2 := Lib.hid ((hb2.block ab (blk_lt HZ9.out)).trans HZ9.out)
          clear hh2 hb2 CP
          obtain ⟨w3, hw3⟩ : ∃ w3, w3 = w2.alloc (.cells #[.int .i64 pi, .int .i64 pb, .int .i64 ps] 32) := ⟨_, rfl⟩
          obtain ⟨b13, hb13⟩ : ∃ b13, b13 = w2.heap.size := ⟨_, rfl⟩
          have hw3n : w3.heap[b13]? = some (.cells #[.int .i64 pi, .int .i64 pb, .int .i64 ps] 32 (0, 0)) := by rw [hw3, hb13]; exact heap_new w2 _
          have hbw3 : Below w2.heap.size w2 w3 := by rw [hw3]; exact (Below.refl _ _).alloc (Nat.le_refl _) _
          have HI3 := Lib.hid (HI2.out.add (.cells #[.int .i64 pi, .int .i64 pb, .int .i64 ps] 32))
          rw [← hw3, ← hb13] at HI3
          have HNw3 := Lib.hid hw3n
          have HBBw3 := Lib.hid hbw3
          clear hw3n hbw3
          have HZ3 := Lib.hid ((HBBw3.out.block ab (blk_lt HZ2.out)).trans HZ2.out)
          have CK := Lib.hid (e_peek HI3.out)
          rw [← HPX.out, ← HHZ.out] at CK
          go_upto_region 28 with fail
          rw [← hw3, ← hb13]
          clear hw3 hb13
          go_wp2_with fail
          refine CK.out.mono ?_
          rintro e9 w4 ⟨rfl, hh4, hb4⟩
          have HI4 := Lib.hid hh4
          have HZ4 := Lib.hid ((hb4.block ab (blk_lt HZ3.out)).trans HZ3.out)
          have HN4 := Lib.hid ((hb4.block b13 (blk_lt HNw3.out)).trans HNw3.out)
          clear hh4 hb4 CK
          obtain ⟨w5, hw5⟩ : ∃ w5, w5 = w4.alloc (.cells #[.int .i64 pi, .int .i64 pb, .int .i64 ps] 37) := ⟨_, rfl⟩
          obtain ⟨b15, hb15⟩ : ∃ b15, b15 = w4.heap.size := ⟨_, rfl⟩
          have hw5n : w5.heap[b15]? = some (.cells #[.int .i64 pi, .int .i64 pb, .int .i64 ps] 37 (0, 0)) := by rw [hw5, hb15]; exact heap_new w4 _
          have hbw5 : Below w4.heap.size w4 w5 := by rw [hw5]; exact (Below.refl _ _).alloc (Nat.le_refl _) _
          have HI5 := Lib.hid (HI4.out.add (.cells #[.int .i64 pi, .int .i64 pb, .int .i64 ps] 37))
          rw [← hw5, ← hb15] at HI5
          have HNw5 := Lib.hid hw5n
          have HBBw5 := Lib.hid hbw5
          clear hw5n hbw5
          have HZ5 := Lib.hid ((HBBw5.out.block ab (blk_lt HZ4.out)).trans HZ4.out)
          have HN5 := Lib.hid ((HBBw5.out.block b13 (blk_lt HN4.out)).trans HN4.out)
          have HM5 := HNw5
          have CW := Lib.hid (d_weight HI5.out xi now HGX.out.2.1)
          go_upto_region 29 with fail
          rw [← hw5, ← hb15]
          clear hw5 hb15
          have x0 : w5.cell? ⟨ab, 0, none⟩ = some (.int .i64 xk) := cell_blk (i := 0) HZ5.out rfl
          have x1 : w5.cell? ⟨ab, 1, none⟩ = some (.int .i64 xi) := cell_blk (i := 1) HZ5.out rfl
          have x2 : w5.cell? ⟨ab, 2, none⟩ = some (.int .i64 xb) := cell_blk (i := 2) HZ5.out rfl
          have x3 : w5.cell? ⟨ab, 3, none⟩ = some (.int .i64 xs) := cell_blk (i := 3) HZ5.out rfl
          have xl := blk_lt HZ5.out
          go_wp2_with fail
          refine CW.out.mono ?_
          rintro e9 w6 ⟨rfl, hh6, hb6⟩
          have HI6 := Lib.hid hh6
          have HZ6 := Lib.hid ((hb6.block ab (blk_lt HZ5.out)).trans HZ5.out)
          have HN6 := Lib.hid ((hb6.block b13 (blk_lt HN5.out)).trans HN5.out)
          have HM6 := Lib.hid ((hb6.block b15 (blk_lt HM5.out)).trans HM5.out)
          have CV := Lib.hid (e_weight hh6 HDI.out xi now)
          clear x0 x1 x2 x3 xl
          clear hh6 hb6 CW
          have x0 : w6.cell? ⟨ab, 0, none⟩ = some (.int .i64 xk) := cell_blk (i := 0) HZ6.out rfl
          have x1 : w6.cell? ⟨ab, 1, none⟩ = some (.int .i64 xi) := cell_blk (i := 1) HZ6.out rfl
          have x2 : w6.cell? ⟨ab, 2, none⟩ = some (.int .i64 xb) := cell_blk (i := 2) HZ6.out rfl
          have x3 : w6.cell? ⟨ab, 3, none⟩ = some (.int .i64 xs) := cell_blk (i := 3) HZ6.out rfl
          have xl := blk_lt HZ6.out
          go_wp2_with fail
          refine CV.out.mono ?_
          rintro e9 w7 ⟨rfl, hh7, hb7⟩
          have HI7 := Lib.hid hh7.drew
          have HZ7 : Hid (w7.drew.heap[ab]? = _) := Lib.hid ((hb7.block ab (blk_lt HZ6.out)).trans HZ6.out)
          have h13 : w7.drew.heap[b13]? = _ := (hb7.block b13 (blk_lt HN6.out)).trans HN6.out
          have h15 : w7.drew.heap[b15]? = _ := (hb7.block b15 (blk_lt HM6.out)).trans HM6.out
          clear x0 x1 x2 x3 xl
          clear hh7 hb7 CV
          have x0 : w7.drew.cell? ⟨ab, 0, none⟩ = some (.int .i64 xk) := cell_blk (i := 0) HZ7.out rfl
          have x1 : w7.drew.cell? ⟨ab, 1, none⟩ = some (.int .i64 xi) := cell_blk (i := 1) HZ7.out rfl
          have x2 : w7.drew.cell? ⟨ab, 2, none⟩ = some (.int .i64 xb) := cell_blk (i := 2) HZ7.out rfl
          have x3 : w7.drew.cell? ⟨ab, 3, none⟩ = some (.int .i64 xs) := cell_blk (i := 3) HZ7.out rfl
          have xl := blk_lt HZ7.out
          have u0 : w7.drew.cell? ⟨b13, 0, none⟩ = some (.int .i64 pi) := cell_blk (i := 0) h13 rfl
          have u1 : w7.drew.cell? ⟨b13, 1, none⟩ = some (.int .i64 pb) := cell_blk (i := 1) h13 rfl
          have u2 : w7.drew.cell? ⟨b13, 2, none⟩ = some (.int .i64 ps) := cell_blk (i := 2) h13 rfl
          have v0 : w7.drew.cell? ⟨b15, 0, none⟩ = some (.int .i64 pi) := cell_blk (i := 0) h15 rfl
          have v1 : w7.drew.cell? ⟨b15, 1, none⟩ = some (.int .i64 pb) := cell_blk (i := 1) h15 rfl
          have v2 : w7.drew.cell? ⟨b15, 2, none⟩ = some (.int .i64 ps) := cell_blk (i := 2) h15 rfl
          have ul := blk_lt h13
          have vl := blk_lt h15
          clear h13 h15
          have CL := Lib.hid (d_len HI7.out)
          have CH := Lib.hid (d_has HI7.out xi HGX.out.2.1)
          have CG := Lib.hid (e_has HI7.out xi)
          obtain ⟨A9, c9, hrh⟩ := HI7.out.rh
          have r1 : w7.drew.cell? ⟨rb, 1, none⟩ = some (.slice A9 S2.length c9) := cell_blk (i := 1) hrh.box rfl
          have rl := hrh.lt
          clear hrh
          generalize rwE s S2 xi now = rw9 at *
          generalize HP.hasB S2 xi = hb9 at *
          generalize S2.length = ln at *
          have hnn : (hz != hz) = false := by cases hz <;> rfl
          have hnb : (hb9 != hb9) = false := by cases hb9 <;> rfl
          go_upto_region 31 with fail
          refine wp_region_still_lit (by kernel_rfl) (by kernel_rfl) ?_
          iterate 10 still_step
          still_call CL.out
          iterate 12 still_step
          still_call CH.out
          iterate 4 still_step
          still_call CG.out
          iterate 12 still_step
          refine wpStill_nil ?_
          clear x0 x1 x2 x3 xl
          clear u0 u1 u2 v0 v1 v2 ul vl r1 rl hnn hnb
          go_wp2_with fail
          go_roundw
          case rel => exact ⟨k + 1, S2, hlt, hk4, by go_num, Lib.hid HI7.out.none⟩
          case measure => simp [intOf]; omega
      · by_cases hlt : k < l.length
        · have hlt1 : (k : Int) < (l.length : Int) := by omega
          have hlt2 : decide ((k : Int) < (l.length : Int)) = true := decide_eq_true hlt1
          have hk5 : ¬ (k : Int) < 200 := by omega
          clear hgo
          have HB := Lib.hid HI.out.b
          have hfew := HI.out.few
          have CL := Lib.hid (d_list HI.out)
          go_wp2_with fail
          refine CL.out.mono ?_
          rintro e9 w5 ⟨ga, ca, rfl, hra, hb5⟩
          have HRA := Lib.hid hra
          have HI5 := Lib.hid (HI.out.call hb5)
          clear hra hb5 CL
          obtain ⟨A9, c9, hrh⟩ := HI5.out.rh
          have r1 : w5.cell? ⟨rb, 1, none⟩ = some (.slice A9 S.length c9) := cell_blk (i := 1) hrh.box rfl
          have rl := hrh.lt
          have HRH := Lib.hid hrh
          clear hrh
          go_wp2_with fail
          clear r1 rl
          go_loopw [218] (fun i wr => ∃ k : Nat, k ≤ S.length ∧ i = .int .i64 (k : Int) ∧ Hid (Below w5.heap.size w5 wr)) (fun i _ => S.length - (intOf i).toNat)
          case atStart => exact ⟨0, Nat.zero_le _, rfl, Lib.hid (Below.refl _ _)⟩
          case round =>
            obtain ⟨k, hk, rfl, HBW⟩ := hrel
            by_cases hlt : k < S.length
            · have hlt1 : (k : Int) < (S.length : Int) := by omega
              have hk0 : (0 : Int) ≤ (k : Int) := Int.natCast_nonneg _
              obtain ⟨b1, o1, hA1, hl1, c1⟩ := (Row.of_own (B.own_below HRA.out HBW.out)).at_ (k := 3) (fun _ => rfl) (by omega) hlt
              have x0 : wr.cell? ⟨b1, o1 + k * 3, none⟩ = some (.int .i64 S[k]!.id) := by have := c1 0 _ rfl; rw [Nat.add_zero] at this; exact this
              have x1 : wr.cell? ⟨b1, o1 + k * 3 + 1, none⟩ = some (.int .i64 S[k]!.base) := c1 1 _ rfl
              have x2 : wr.cell? ⟨b1, o1 + k * 3 + 2, none⟩ = some (.int .i64 S[k]!.since) := c1 2 _ rfl
              obtain ⟨b2, hA2, y0, y1, y2⟩ := (HRH.out.below HBW.out).at_ hlt
              have r1 : wr.cell? ⟨rb, 1, none⟩ = some (.slice A9 S.length c9) := cell_blk (i := 1) (HRH.out.below HBW.out).box rfl
              have rl := (HRH.out.below HBW.out).lt
              obtain ⟨x, hx⟩ : ∃ x, x = S[k]! := ⟨_, rfl⟩
              rw [← hx] at x0 x1 x2 y0 y1 y2
              clear hx c1
              obtain ⟨xi, xb, xs⟩ := x
              simp only at x0 x1 x2 y0 y1 y2
              have HA1 := Lib.hid hA1
              rw [hA1]
              rw [hA2] at r1
              clear hA1 hA2
              go_wp2_with fail
              go_quiet (fail)
              have HBN := Lib.hid (HBW.out.trans (below_draws (Below.refl w5.heap.size wr) nq))
              clear r1 rl x0 x1 x2 y0 y1 y2
              go_wp2_with fail
              go_roundw
              case rel => exact ⟨k + 1, hlt, by go_num, HBN⟩
              case measure => simp [intOf]; omega
            · have hlt1 : ¬ (k : Int) < (S.length : Int) := by omega
              have HBF := Lib.hid (HI5.out.b.trans (HBW.out.mono HI5.out.b.size))
              go_wp2_with fail
              go_ret
              exact ⟨rfl, HBF.out⟩
        · have hlt1 : ¬ (k : Int) < (l.length : Int) := by omega
          have hlt2 : decide ((k : Int) < (l.length : Int)) = false := decide_eq_false hlt1
          clear hgo
          have HB := Lib.hid HI.out.b
          have hfew := HI.out.few
          have CL := Lib.hid (d_list HI.out)
          go_wp2_with fail
          refine CL.out.mono ?_
          rintro e9 w5 ⟨ga, ca, rfl, hra, hb5⟩
          have HRA := Lib.hid hra
          have HI5 := Lib.hid (HI.out.call hb5)
          clear hra hb5 CL
          obtain ⟨A9, c9, hrh⟩ := HI5.out.rh
          have r1 : w5.cell? ⟨rb, 1, none⟩ = some (.slice A9 S.length c9) := cell_blk (i := 1) hrh.box rfl
          have rl := hrh.lt
          have HRH := Lib.hid hrh
          clear hrh
          go_wp2_with fail
          clear r1 rl
          go_loopw [218] (fun i wr => ∃ k : Nat, k ≤ S.length ∧ i = .int .i64 (k : Int) ∧ Hid (Below w5.heap.size w5 wr)) (fun i _ => S.length - (intOf i).toNat)
          case atStart => exact ⟨0, Nat.zero_le _, rfl, Lib.hid (Below.refl _ _)⟩
          case round =>
            obtain ⟨k, hk, rfl, HBW⟩ := hrel
            by_cases hlt : k < S.length
            · have hlt1 : (k : Int) < (S.length : Int) := by omega
              have hk0 : (0 : Int) ≤ (k : Int) := Int.natCast_nonneg _
              obtain ⟨b1, o1, hA1, hl1, c1⟩ := (Row.of_own (B.own_below HRA.out HBW.out)).at_ (k := 3) (fun _ => rfl) (by omega) hlt
              have x0 : wr.cell? ⟨b1, o1 + k * 3, none⟩ = some (.int .i64 S[k]!.id) := by have := c1 0 _ rfl; rw [Nat.add_zero] at this; exact this
              have x1 : wr.cell? ⟨b1, o1 + k * 3 + 1, none⟩ = some (.int .i64 S[k]!.base) := c1 1 _ rfl
              have x2 : wr.cell? ⟨b1, o1 + k * 3 + 2, none⟩ = some (.int .i64 S[k]!.since) := c1 2 _ rfl
              obtain ⟨b2, hA2, y0, y1, y2⟩ := (HRH.out.below HBW.out).at_ hlt
              have r1 : wr.cell? ⟨rb, 1, none⟩ = some (.slice A9 S.length c9) := cell_blk (i := 1) (HRH.out.below HBW.out).box rfl
              have rl := (HRH.out.below HBW.out).lt
              obtain ⟨x, hx⟩ : ∃ x, x = S[k]! := ⟨_, rfl⟩
              rw [← hx] at x0 x1 x2 y0 y1 y2
              clear hx c1
              obtain ⟨xi, xb, xs⟩ := x
              simp only at x0 x1 x2 y0 y1 y2
              have HA1 := Lib.hid hA1
              rw [hA1]
              rw [hA2] at r1
              clear hA1 hA2
              go_wp2_with fail
              go_quiet (fail)
              have HBN := Lib.hid (HBW.out.trans (below_draws (Below.refl w5.heap.size wr) nq))
              clear r1 rl x0 x1 x2 y0 y1 y2
              go_wp2_with fail
              go_roundw
              case rel => exact ⟨k + 1, hlt, by go_num, HBN⟩
              case measure => simp [intOf]; omega
            · have hlt1 : ¬ (k : Int) < (S.length : Int) := by omega
              have HBF := Lib.hid (HI5.out.b.trans (HBW.out.mono HI5.out.b.size))
              go_wp2_with fail
              go_ret
              exact ⟨rfl, HBF.out⟩

theorem own : ownKnob Try.prog.godebug = none := by kernel_rfl
set_option maxRecDepth 100000 in
theorem lifted (os : Os) (started : os.Started) (H : Type) (enc : TypeId × Value → H) :
    ReturnsInHanded {} Try.checked os 3 .any (Rows.heapDoesSpec.pre6 enc Try.prog Try.f3 Rows.heapDoesRow.domain false) (Rows.heapDoesSpec.post enc Try.prog Try.f3 false true false false) := by
  refine returnsInHanded_of_change_sized (C := Try.checked) own started (by kernel_rfl) Try.func3
    (ChangeSpec.witness6 (enc := enc) (C := Try.checked) false ⟨#[], #[.int .i64 0, .slice none 0 0, .int .i64 0], []⟩ 8 (by kernel_rfl) (by kernel_rfl) (by kernel_rfl) (by kernel_rfl)) ?_
  intro W base args ds gs before hval0 hW _ hsz0 _
  have hsz : (DataW.weightsEach Try.prog (Try.f3.params.toList ++ Rows.heapDoesSpec.plain.varTypes Try.prog) (ds ++ gs)).all (· ≤ reachBytes) = true := hsz0
  have hval : ∀ (j : Nat) t v, Try.f3.params[j]? = some t → args[j]? = some v → Value.okWide Try.prog W .any base t v := hval0
  have hW' := hW
  obtain ⟨p, q, hA0, hV, rfl, _, _⟩ := hW
  have hA : DataW.TrodAll enc Try.prog W 0 (fun _ => true) true Try.f3.params.toList args.toList ds p := hA0
  rw [Try.params3] at hA hval hsz
  obtain ⟨v0, vs0, d0, ds0, p0, q0, hargs, rfl, rfl, h0, r0⟩ := trodAll_cons hA
  obtain ⟨v1, vs1, d1, ds1, p1, q1, e1, rfl, rfl, h1, r1⟩ := trodAll_cons r0
  obtain ⟨v2, vs2, d2, ds2, p2, q2, e2, rfl, rfl, h2, r2⟩ := trodAll_cons r1
  obtain ⟨rfl, rfl, rfl⟩ := trodAll_nil r2
  subst e2
  subst e1
  obtain rfl : args = #[v0, v1, v2] := by cases args; simp_all
  obtain ⟨rfl, rfl⟩ := trodVars_none hV
  obtain ⟨i0, rfl, hw0⟩ := open_int (hval 0 _ v0 rfl rfl) h0
  have hw1 : Wt Try.prog 22 d1 := Wt.of hsz (j := 1) rfl rfl
  obtain ⟨A1, c1, l1, rfl, hr1, hg1⟩ := open_hacs (hval 1 _ v1 rfl rfl) h1 hw1
  obtain ⟨i2, rfl, hw2⟩ := open_int (hval 2 _ v2 rfl rfl) h2
  clear hA0 hval0 hsz0
  simp only [List.append_nil] at hW'
  have hlt0 := fun x hx => hW'.lt x hx
  refine (walk W i0 i2 A1 c1 l1 hr1 hg1).mono fun e W' ⟨he2, hg⟩ => ?_
  subst he2
  have hargs := (trodAll_cons_mk (Below.trod progLaid (by kernel_rfl) (of_decide_eq_true (by kernel_rfl)) h0 hg (fun x hx => hlt0 x (List.mem_append_left _ hx))) (trodAll_cons_mk (Below.trod progLaid (by kernel_rfl) (of_decide_eq_true (by kernel_rfl)) h1 hg (fun x hx => hlt0 x (List.mem_append_right _ (List.mem_append_left _ hx)))) (trodAll_cons_mk (Below.trod progLaid (by kernel_rfl) (of_decide_eq_true (by kernel_rfl)) h2 hg (fun x hx => hlt0 x (List.mem_append_right _ (List.mem_append_right _ (hx))))) (trodAll_mk0 (enc := enc) (P := Try.prog) (w := W')))))
  simp only [List.append_nil] at hargs
  exact ⟨_, rfl, _, _, _, [], p0 ++ (p1 ++ (p2)), [], hW', trodAll_cons_mk (shut_bool Try.underlying4 _) trodAll_mk0, hargs, rfl, hg.frame _, fun h => by cases h⟩

theorem proved : Rows.HeapDoesSaid :=
  OpenClaim.holds_of_wide 3 Try.f3 rfl rfl rfl rfl rfl rfl rfl ⟨rfl, rfl, rfl, rfl, rfl⟩ rfl rfl rfl rfl rfl (by kernel_rfl) Try.func3 (by kernel_rfl)
    (of_decide_eq_true (by kernel_rfl)) (by unfold Func.isWrapper; first | (rw [if_pos (by decide +kernel)]; kernel_rfl) | (rw [if_neg (by decide +kernel)]; exact ⟨rfl, rfl⟩))
    (fun os started H enc _ => lifted os started H enc)
end Go.Proofs.Ytcipgjelbnmdiaa.HDoes
