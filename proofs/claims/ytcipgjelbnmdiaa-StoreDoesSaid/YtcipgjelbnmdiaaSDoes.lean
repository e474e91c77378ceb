/-
  StoreDoes: whatever is written and read, with fuses, each answer, all bytes, and whether it is down, are as the document says, act by act; any number of blocks; no condition.
-/
import Derived.Test.YtcipgjelbnmdiaaSpB
import Derived.ShutString
namespace Go.Proofs.Ytcipgjelbnmdiaa.SDoes
open Go.RowKit Go.Shelf Go.Deep Go.Joins Go.ChangeShapes Go.WideShapes Go.Proofs.Ytcipgjelbnmdiaa.B Go.Proofs.Ytcipgjelbnmdiaa.ST Go.Proofs.Ytcipgjelbnmdiaa.OP
attribute [local go_sem] Oper.semAt_some

/-- What stands between two acts. -/
structure DI (W : World) (sb g c rb q e k : Nat) (w : World) : Prop where
  b : Below W.heap.size W w
  h : ∃ (L : List Bk) (f : Fs) (r : Rs), SB w sb g c L f ∧ RB w rb q e L r ∧ Rel f r ∧ 0 ≤ f.wr ∧ f.wr ≤ k
  l : W.heap.size ≤ sb ∧ W.heap.size ≤ g ∧ W.heap.size ≤ rb ∧ W.heap.size ≤ q
theorem DI.call {W : World} {sb g c rb q e k : Nat} {w w' : World} (h : DI W sb g c rb q e k w) (hb : Below w.heap.size w w') : DI W sb g c rb q e k w' := by
  obtain ⟨L, f, r, h1, h2, h3, h4⟩ := h.h
  exact ⟨h.b.trans (hb.mono h.b.size), ⟨L, f, r, h1.below hb, h2.below hb, h3, h4⟩, h.l⟩
theorem DI.drew {W : World} {sb g c rb q e k : Nat} {w : World} (h : DI W sb g c rb q e k w) : DI W sb g c rb q e k w.drew := h.call (below_draws (Below.refl _ _) 1)
theorem DI.more {W : World} {sb g c rb q e k k2 : Nat} {w : World} (h : DI W sb g c rb q e k w) (hk : k ≤ k2) : DI W sb g c rb q e k2 w := by
  obtain ⟨L, f, r, h1, h2, h3, h4, h5⟩ := h.h
  exact ⟨h.b, ⟨L, f, r, h1, h2, h3, h4, by omega⟩, h.l⟩
/-- The one has done a step, the other follows. -/
theorem DI.step {W : World} {sb g c rb q e k : Nat} {w w1 w2 : World} (h : DI W sb g c rb q e k w) {L : List Bk} {f : Fs} {r : Rs} (hr : RB w rb q e L r) (hs : SB w sb g c L f) {L' : List Bk} {f' : Fs} {r' : Rs} (h1 : SB w1 sb g c L' f') (k1 : K2 sb g w w1)
    (h2 : RB w2 rb q e L' r') (k2 : K2 rb q w1 w2) (hl : Rel f' r') (h3 : 0 ≤ f'.wr) (h4 : f'.wr ≤ (k : Int) + 1) : DI W sb g c rb q e (k + 1) w2 := by
  have hr1 := hr.other hs k1
  have hb1 := k1.below h.b h.l.1 h.l.2.1 h.b.size
  exact ⟨k2.below hb1 h.l.2.2.1 h.l.2.2.2 hb1.size, ⟨L', f', r', h1.other2 hr1 k2, h2, hl, h3, by omega⟩, h.l⟩
set_option maxRecDepth 100000 in
set_option maxHeartbeats 8000000 in
theorem walk (W : World) (n : Int) (A : Option Addr) (c1 : Nat) (l : List Sa) (hr : Row W A (l.flatMap saC)) (hg : ∀ x ∈ l, goodS x) :
    Calls Try.prog 5 #[.int .i64 n, .slice A l.length c1] W fun e W' => e = .returned (.bool true) ∧ Below W.heap.size W W' := by
  have CA := Lib.hid (awake_any W)
  have HR_l := Lib.hid hr
  have HG := Lib.hid hg
  clear hr hg
  go_enter Try.func5, Try.ntmps5
  go_wp2_with fail
  refine CA.out.mono ?_
  rintro e W1 ⟨rfl, hb1⟩
  have HB1 := Lib.hid hb1
  clear hb1 CA
  by_cases hn : n < 1 ∨ 256 < n
  · go_wp2_with fail
    refine (new_no W1 n hn).mono ?_
    rintro e W2 ⟨rfl, hw⟩
    subst hw
    go_wp2_with fail
    refine (rnew_no W1 n hn).mono ?_
    rintro e W2 ⟨rfl, hw⟩
    subst hw
    clear hn
    go_wp2_with fail
    go_loopw [9] (fun i wr => i = .int .i64 0 ∧ wr = W1) (fun _ _ => 0)
    case atStart => exact ⟨rfl, rfl⟩
    case round =>
      obtain ⟨rfl, rfl⟩ := hrel
      by_cases hl : 0 < l.length
      · have hl1 : (0 : Int) < (l.length : Int) := by omega
        go_wp2_with fail
        go_ret
        exact ⟨rfl, HB1.out⟩
      · have hl1 : ¬ (0 : Int) < (l.length : Int) := by omega
        go_wp2_with fail
        go_ret
        exact ⟨rfl, HB1.out⟩
  · obtain ⟨m, rfl⟩ : ∃ m : Nat, n = (m : Int) := ⟨n.toNat, by omega⟩
    have hm1 : 1 ≤ m := by omega
    have hm2 : m ≤ 256 := by omega
    clear hn
    go_wp2_with fail
    refine (new_any W1 m hm1 hm2).mono ?_
    rintro e W2 ⟨sb, g, c, rfl, hs, hb2, h1, h2⟩
    have HS2 := Lib.hid hs
    have HB2 := Lib.hid (HB1.out.trans (hb2.mono HB1.out.size))
    have hl1 : W.heap.size ≤ sb := Nat.le_trans HB1.out.size h1
    have hl2 : W.heap.size ≤ g := Nat.le_trans HB1.out.size h2
    clear hs hb2 h1 h2 HB1
    go_wp2_with fail
    refine (rnew_yes W2 m hm1 hm2).mono ?_
    rintro e W3 ⟨rb, q, e2, rfl, hr3, hb3, h1, h2⟩
    have HI0 : Hid (DI W sb g c rb q e2 0 W3) := Lib.hid ⟨HB2.out.trans (hb3.mono HB2.out.size), ⟨_, _, _, HS2.out.below hb3, hr3, Rel.start, Int.le_refl _, Int.le_refl _⟩, hl1, hl2, Nat.le_trans HB2.out.size h1, Nat.le_trans HB2.out.size h2⟩
    clear hr3 hb3 h1 h2 HS2 HB2 hl1 hl2
    go_wp2_with fail
    go_loopw [9] (fun i wr => ∃ k : Nat, k ≤ l.length ∧ k ≤ 100 ∧ i = .int .i64 (k : Int) ∧ Hid (DI W sb g c rb q e2 k wr)) (fun i _ => 100 - (intOf i).toNat)
    case atStart => exact ⟨0, Nat.zero_le _, Nat.zero_le _, rfl, HI0⟩
    case round =>
      clear HI0
      obtain ⟨k, hk, hk1, rfl, HI⟩ := hrel
      have hk0 : (0 : Int) ≤ (k : Int) := Int.natCast_nonneg _
      by_cases hgo : k < l.length ∧ k < 100
      · obtain ⟨hlt, hk4⟩ := hgo
        have hlt1 : (k : Int) < (l.length : Int) := by omega
        have hlt2 : decide ((k : Int) < (l.length : Int)) = true := decide_eq_true hlt1
        have hk5 : (k : Int) < 100 := by omega
        obtain ⟨bk, off, hA, hbk, c0⟩ := (HR_l.out.below (Nat.le_refl _) HI.out.b).at_ (k := 4) (fun _ => rfl) (by omega) hlt
        have x0 : wr.cell? ⟨bk, off + k * 4, none⟩ = some (.int .i64 l[k]!.kind) := by have := c0 0 _ rfl; rw [Nat.add_zero] at this; exact this
        have x1 : wr.cell? ⟨bk, off + k * 4 + 1, none⟩ = some (.int .i64 l[k]!.i) := c0 1 _ rfl
        have x2 : wr.cell? ⟨bk, off + k * 4 + 2, none⟩ = some (.int .i64 l[k]!.n) := c0 2 _ rfl
        have x3 : wr.cell? ⟨bk, off + k * 4 + 3, none⟩ = some (.string l[k]!.data) := c0 3 _ rfl
        obtain rfl : A = some ⟨bk, off, none⟩ := hA
        have HGX := Lib.hid (HG.out _ (mem_at hlt))
        obtain ⟨x, hx⟩ : ∃ x, x = l[k]! := ⟨_, rfl⟩
        rw [← hx] at x0 x1 x2 x3 HGX
        clear hx c0
        obtain ⟨xk, xi, xn, xd⟩ := x
        simp only at x0 x1 x2 x3
        obtain ⟨wa, hwa⟩ : ∃ wa, wa = wr.alloc (.cells #[.int .i64 xk, .int .i64 xi, .int .i64 xn, .string xd] 65) := ⟨_, rfl⟩
        obtain ⟨ab, hab⟩ : ∃ ab, ab = wr.heap.size := ⟨_, rfl⟩
        have hza := heap_alloc_last wr (.cells #[.int .i64 xk, .int .i64 xi, .int .i64 xn, .string xd] 65)
        rw [← hwa, ← hab] at hza
        have HIA : Hid (DI W sb g c rb q e2 k wa) := Lib.hid (by rw [hwa]; exact HI.out.call ((Below.refl _ _).alloc (Nat.le_refl _) _))
        have HZA := Lib.hid hza
        by_cases hbig : xd.size ≤ 200
        · have hbig2 : ¬ (xd.size : Int) > 200 := by omega
          go_upto_region 11 with fail
          rw [← hwa, ← hab]
          clear hwa hab x0 x1 x2 x3 hza HI
          have HI := HIA
          clear HIA
          have x0 : wa.cell? ⟨ab, 0, none⟩ = some (.int .i64 xk) := cell_blk (i := 0) HZA.out rfl
          have x1 : wa.cell? ⟨ab, 1, none⟩ = some (.int .i64 xi) := cell_blk (i := 1) HZA.out rfl
          have x2 : wa.cell? ⟨ab, 2, none⟩ = some (.int .i64 xn) := cell_blk (i := 2) HZA.out rfl
          have x3 : wa.cell? ⟨ab, 3, none⟩ = some (.string xd) := cell_blk (i := 3) HZA.out rfl
          have xl := blk_lt HZA.out
          go_upto_block 2 with fail
          go_cut [11] from 62 to 102 (fun _ wx => Hid (DI W sb g c rb q e2 (k + 1) wx ∧ wx.cell? ⟨ab, 1, none⟩ = some (.int .i64 xi) ∧ ab < wx.heap.size))
          case first =>
            by_cases k0 : xk = 0
            · have kb0 : (xk == 0) = true := by rw [k0]; rfl
              clear k0
              have CB := Lib.hid (block_any wa xd (by omega))
              obtain ⟨X, hX⟩ : ∃ X, X = blk xd := ⟨_, rfl⟩
              rw [← hX] at CB
              clear hX
              obtain ⟨L, f, r, hS, hR, hL, hw0, hw1⟩ := HI.out.h
              have HS := Lib.hid hS
              have HR := Lib.hid hR
              have HL := Lib.hid hL
              have HW := Lib.hid (And.intro hw0 hw1)
              clear hS hR hL hw0 hw1
              have n1 : ab ≠ sb := blk_ne HZA.out HS.out.box (by decide)
              have n2 : ab ≠ g := by obtain ⟨ex, hx⟩ := HS.out.row; exact blk_ne HZA.out hx (by decide)
              have n3 : ab ≠ rb := blk_ne HZA.out HR.out.box (by decide)
              have n4 : ab ≠ q := by obtain ⟨ex, hx⟩ := HR.out.row; exact blk_ne HZA.out hx (by decide)
              have hwr := HL.out.write HS.out.wh.1 L xi X
              have hwb := wrS_wr L f xi X
              have CW1 := Lib.hid (write_any wa.drew sb g c L f HS.out.drew xi X ⟨HW.out.1, by have := HW.out.2; omega⟩)
              have HWB : Hid (0 ≤ (wrS L f xi X).2.2.wr ∧ (wrS L f xi X).2.2.wr ≤ (k : Int) + 1) := Lib.hid (by have h1 := HW.out.1; have h2 := HW.out.2; omega)
              have HWR := Lib.hid hwr
              have hrm : 0 ≤ r.many ∧ r.many ≤ 1000000 := by rw [← HL.out.many]; have h1 := HW.out.1; have h2 := HW.out.2; omega
              have HRM := Lib.hid hrm
              have S0 : Hid (wa.drew.heap[ab]? = some (.cells #[.int .i64 xk, .int .i64 xi, .int .i64 xn, .string xd] 65 (0, 0))) := Lib.hid HZA.out
              clear hwr hwb hrm
              go_wp2_with fail
              refine CB.out.mono ?_
              rintro e9 w9 ⟨rfl, hw⟩
              subst hw
              go_wp2_with fail
              refine wp_region_T (S := fun W => W.heap[ab]? = some (.cells #[.int .i64 xk, .int .i64 xi, .int .i64 xn, .string xd] 65 (0, 0))) (z := 100) (by kernel_rfl) ?_
              refine anyT_takeU (i := 0) (v := ?_) (by decide) rfl (by kernel_rfl) (by kernel_rfl) (by kernel_rfl) (fun _ _ _ h => h) S0.out (by rfl) ?_ ?_
              rotate_left
              · intro W9 hSw
                have c9 : W9.cell? ⟨ab, 1, none⟩ = some (.int .i64 xi) := cell_blk (i := 1) hSw rfl
                clear hSw
                go_simp
                try with_reducible rfl
              simp only [Act.put, List.setIfInBounds_toArray]
              try simp only [List.set_cons_zero, List.set_cons_succ]
              try simp only [List.getElem_toArray]
              repeat (first | simp only [List.getElem_cons_zero] | simp only [List.getElem_cons_succ])
              refine anyT_takeU (i := 1) (v := ?_) (by decide) rfl (by kernel_rfl) (by kernel_rfl) (by kernel_rfl) (fun _ _ _ h => h) S0.out (by rfl) ?_ ?_
              rotate_left
              · intro W9 hSw
                have c9 : W9.cell? ⟨ab, 1, none⟩ = some (.int .i64 xi) := cell_blk (i := 1) hSw rfl
                clear hSw
                go_simp
                try with_reducible rfl
              simp only [Act.put, List.setIfInBounds_toArray]
              try simp only [List.set_cons_zero, List.set_cons_succ]
              try simp only [List.getElem_toArray]
              repeat (first | simp only [List.getElem_cons_zero] | simp only [List.getElem_cons_succ])
              refine anyT_takeU (i := 2) (v := ?_) (by decide) rfl (by kernel_rfl) (by kernel_rfl) (by kernel_rfl) (fun _ _ _ h => h) S0.out (by rfl) ?_ ?_
              rotate_left
              · intro W9 hSw
                have c9 : W9.cell? ⟨ab, 1, none⟩ = some (.int .i64 xi) := cell_blk (i := 1) hSw rfl
                clear hSw
                go_simp
                try with_reducible rfl
              simp only [Act.put, List.setIfInBounds_toArray]
              try simp only [List.set_cons_zero, List.set_cons_succ]
              try simp only [List.getElem_toArray]
              repeat (first | simp only [List.getElem_cons_zero] | simp only [List.getElem_cons_succ])
              refine anyT_takeU (i := 3) (v := ?_) (by decide) rfl (by kernel_rfl) (by kernel_rfl) (by kernel_rfl) (fun _ _ _ h => h) S0.out (by rfl) ?_ ?_
              rotate_left
              · intro W9 hSw
                have c9 : W9.cell? ⟨ab, 1, none⟩ = some (.int .i64 xi) := cell_blk (i := 1) hSw rfl
                clear hSw
                go_simp
                try with_reducible rfl
              simp only [Act.put, List.setIfInBounds_toArray]
              try simp only [List.set_cons_zero, List.set_cons_succ]
              try simp only [List.getElem_toArray]
              repeat (first | simp only [List.getElem_cons_zero] | simp only [List.getElem_cons_succ])
              refine anyT_takeU (i := 5) (v := ?_) (by decide) rfl (by kernel_rfl) (by kernel_rfl) (by kernel_rfl) (fun _ _ _ h => h) S0.out (by rfl) ?_ ?_
              rotate_left
              · intro W9 hSw
                have c9 : W9.cell? ⟨ab, 1, none⟩ = some (.int .i64 xi) := cell_blk (i := 1) hSw rfl
                clear hSw
                go_simp
                try with_reducible rfl
              simp only [Act.put, List.setIfInBounds_toArray]
              try simp only [List.set_cons_zero, List.set_cons_succ]
              try simp only [List.getElem_toArray]
              repeat (first | simp only [List.getElem_cons_zero] | simp only [List.getElem_cons_succ])
              refine anyT_takeU (i := 6) (v := ?_) (by decide) rfl (by kernel_rfl) (by kernel_rfl) (by kernel_rfl) (fun _ _ _ h => h) S0.out (by rfl) ?_ ?_
              rotate_left
              · intro W9 hSw
                have c9 : W9.cell? ⟨ab, 1, none⟩ = some (.int .i64 xi) := cell_blk (i := 1) hSw rfl
                clear hSw
                go_simp
                try with_reducible rfl
              simp only [Act.put, List.setIfInBounds_toArray]
              try simp only [List.set_cons_zero, List.set_cons_succ]
              try simp only [List.getElem_toArray]
              repeat (first | simp only [List.getElem_cons_zero] | simp only [List.getElem_cons_succ])
              refine anyT_takeU (i := 7) (v := ?_) (by decide) rfl (by kernel_rfl) (by kernel_rfl) (by kernel_rfl) (fun _ _ _ h => h) S0.out (by rfl) ?_ ?_
              rotate_left
              · intro W9 hSw
                have c9 : W9.cell? ⟨ab, 1, none⟩ = some (.int .i64 xi) := cell_blk (i := 1) hSw rfl
                clear hSw
                go_simp
                try with_reducible rfl
              simp only [Act.put, List.setIfInBounds_toArray]
              try simp only [List.set_cons_zero, List.set_cons_succ]
              try simp only [List.getElem_toArray]
              repeat (first | simp only [List.getElem_cons_zero] | simp only [List.getElem_cons_succ])
              refine anyT_takeU (i := 8) (v := ?_) (by decide) rfl (by kernel_rfl) (by kernel_rfl) (by kernel_rfl) (fun _ _ _ h => h) S0.out (by rfl) ?_ ?_
              rotate_left
              · intro W9 hSw
                have c9 : W9.cell? ⟨ab, 1, none⟩ = some (.int .i64 xi) := cell_blk (i := 1) hSw rfl
                clear hSw
                go_simp
                try with_reducible rfl
              simp only [Act.put, List.setIfInBounds_toArray]
              try simp only [List.set_cons_zero, List.set_cons_succ]
              try simp only [List.getElem_toArray]
              repeat (first | simp only [List.getElem_cons_zero] | simp only [List.getElem_cons_succ])
              refine anyT_one' (i := 4) (by kernel_rfl) rfl (by rfl) (fun K hK => ?_)
              have HK := Lib.hid hK
              clear hK
              unfold Oper.wp
              go_simp
              refine CW1.out.mono ?_
              rintro e9 w2 ⟨rfl, hs2, hk2⟩
              have HSa := Lib.hid hs2
              have HKa := Lib.hid hk2
              have HRa := Lib.hid (HR.out.drew.other HS.out.drew hk2)
              have S1 := Lib.hid ((hk2.block ab xl n1 n2).trans S0.out)
              have zl2 : ab < w2.heap.size := blk_lt S1.out
              clear hs2 hk2
              dsimp only
              refine HK.out _ _ (fun _ => S1.out) ?_
              clear HK K
              refine anyT_one' (i := 9) (by kernel_rfl) rfl (by rfl) (fun K hK => ?_)
              have HK := Lib.hid hK
              clear hK
              unfold Oper.wp
              go_simp
              refine (rwrite_any w2 rb q e2 L r HRa.out xi X HL.out.wt HRM.out).mono ?_
              rintro e9 w3 ⟨he, hs3, hk3⟩
              rw [← HWR.out.1] at he
              subst he
              rw [← HWR.out.2.1] at hs3
              have S2 := Lib.hid ((hk3.block ab zl2 n3 n4).trans S1.out)
              have HJ := Lib.hid (HI.out.drew.step HR.out.drew HS.out.drew HSa.out HKa.out hs3 hk3 HWR.out.2.2 HWB.out.1 HWB.out.2)
              have HCX : Hid (w3.cell? ⟨ab, 1, none⟩ = some (.int .i64 xi) ∧ ab < w3.heap.size) := Lib.hid ⟨cell_blk (i := 1) S2.out rfl, blk_lt S2.out⟩
              clear hs3 hk3 HSa HKa HRa
              generalize (wrS L f xi X).1 = E1 at *
              dsimp only
              refine HK.out _ _ (fun _ => S2.out) ?_
              clear HK K
              refine anyT_one' (i := 10) (by kernel_rfl) rfl (by rfl) (fun K hK => ?_)
              have HK := Lib.hid hK
              clear hK
              unfold Oper.wp
              go_simp
              refine HK.out _ _ (fun _ => S2.out) ?_
              clear HK K
              refine anyT_done (by kernel_rfl) ?_ _
              clear n1 n2 n3 n4 xl x0 x1 x2 x3
              go_wp2_with fail
              go_meet
              exact Lib.hid ⟨HJ.out, HCX.out⟩
            · have kb0 : (xk == 0) = false := beq_eq_false_iff_ne.2 k0
              by_cases k1 : xk = 1
              · have kb1 : (xk == 1) = true := by rw [k1]; rfl
                clear k1
                obtain ⟨L, f, r, hS, hR, hL, hw0, hw1⟩ := HI.out.h
                have HS := Lib.hid hS
                have HR := Lib.hid hR
                have HL := Lib.hid hL
                have HW := Lib.hid (And.intro hw0 hw1)
                clear hS hR hL hw0 hw1
                have n1 : ab ≠ sb := blk_ne HZA.out HS.out.box (by decide)
                have n2 : ab ≠ g := by obtain ⟨ex, hx⟩ := HS.out.row; exact blk_ne HZA.out hx (by decide)
                have n3 : ab ≠ rb := blk_ne HZA.out HR.out.box (by decide)
                have n4 : ab ≠ q := by obtain ⟨ex, hx⟩ := HR.out.row; exact blk_ne HZA.out hx (by decide)
                have hwr := HL.out.write HS.out.wh.1 L xi xd
                have hwb := wrS_wr L f xi xd
                have CW1 := Lib.hid (write_any wa.drew sb g c L f HS.out.drew xi xd ⟨HW.out.1, by have := HW.out.2; omega⟩)
                have HWB : Hid (0 ≤ (wrS L f xi xd).2.2.wr ∧ (wrS L f xi xd).2.2.wr ≤ (k : Int) + 1) := Lib.hid (by have h1 := HW.out.1; have h2 := HW.out.2; omega)
                have HWR := Lib.hid hwr
                have hrm : 0 ≤ r.many ∧ r.many ≤ 1000000 := by rw [← HL.out.many]; have h1 := HW.out.1; have h2 := HW.out.2; omega
                have HRM := Lib.hid hrm
                have S0 : Hid (wa.drew.heap[ab]? = some (.cells #[.int .i64 xk, .int .i64 xi, .int .i64 xn, .string xd] 65 (0, 0))) := Lib.hid HZA.out
                clear hwr hwb hrm
                go_wp2_with fail
                refine wp_region_T (S := fun W => W.heap[ab]? = some (.cells #[.int .i64 xk, .int .i64 xi, .int .i64 xn, .string xd] 65 (0, 0))) (z := 100) (by kernel_rfl) ?_
                refine anyT_takeU (i := 0) (v := ?_) (by decide) rfl (by kernel_rfl) (by kernel_rfl) (by kernel_rfl) (fun _ _ _ h => h) S0.out (by rfl) ?_ ?_
                rotate_left
                · intro W9 hSw
                  have c9 : W9.cell? ⟨ab, 1, none⟩ = some (.int .i64 xi) := cell_blk (i := 1) hSw rfl
                  clear hSw
                  go_simp
                  try with_reducible rfl
                simp only [Act.put, List.setIfInBounds_toArray]
                try simp only [List.set_cons_zero, List.set_cons_succ]
                try simp only [List.getElem_toArray]
                repeat (first | simp only [List.getElem_cons_zero] | simp only [List.getElem_cons_succ])
                refine anyT_takeU (i := 1) (v := ?_) (by decide) rfl (by kernel_rfl) (by kernel_rfl) (by kernel_rfl) (fun _ _ _ h => h) S0.out (by rfl) ?_ ?_
                rotate_left
                · intro W9 hSw
                  have c9 : W9.cell? ⟨ab, 1, none⟩ = some (.int .i64 xi) := cell_blk (i := 1) hSw rfl
                  clear hSw
                  go_simp
                  try with_reducible rfl
                simp only [Act.put, List.setIfInBounds_toArray]
                try simp only [List.set_cons_zero, List.set_cons_succ]
                try simp only [List.getElem_toArray]
                repeat (first | simp only [List.getElem_cons_zero] | simp only [List.getElem_cons_succ])
                refine anyT_takeU (i := 2) (v := ?_) (by decide) rfl (by kernel_rfl) (by kernel_rfl) (by kernel_rfl) (fun _ _ _ h => h) S0.out (by rfl) ?_ ?_
                rotate_left
                · intro W9 hSw
                  have c9 : W9.cell? ⟨ab, 1, none⟩ = some (.int .i64 xi) := cell_blk (i := 1) hSw rfl
                  clear hSw
                  go_simp
                  try with_reducible rfl
                simp only [Act.put, List.setIfInBounds_toArray]
                try simp only [List.set_cons_zero, List.set_cons_succ]
                try simp only [List.getElem_toArray]
                repeat (first | simp only [List.getElem_cons_zero] | simp only [List.getElem_cons_succ])
                refine anyT_takeU (i := 3) (v := ?_) (by decide) rfl (by kernel_rfl) (by kernel_rfl) (by kernel_rfl) (fun _ _ _ h => h) S0.out (by rfl) ?_ ?_
                rotate_left
                · intro W9 hSw
                  have c9 : W9.cell? ⟨ab, 1, none⟩ = some (.int .i64 xi) := cell_blk (i := 1) hSw rfl
                  clear hSw
                  go_simp
                  try with_reducible rfl
                simp only [Act.put, List.setIfInBounds_toArray]
                try simp only [List.set_cons_zero, List.set_cons_succ]
                try simp only [List.getElem_toArray]
                repeat (first | simp only [List.getElem_cons_zero] | simp only [List.getElem_cons_succ])
                refine anyT_takeU (i := 5) (v := ?_) (by decide) rfl (by kernel_rfl) (by kernel_rfl) (by kernel_rfl) (fun _ _ _ h => h) S0.out (by rfl) ?_ ?_
                rotate_left
                · intro W9 hSw
                  have c9 : W9.cell? ⟨ab, 1, none⟩ = some (.int .i64 xi) := cell_blk (i := 1) hSw rfl
                  clear hSw
                  go_simp
                  try with_reducible rfl
                simp only [Act.put, List.setIfInBounds_toArray]
                try simp only [List.set_cons_zero, List.set_cons_succ]
                try simp only [List.getElem_toArray]
                repeat (first | simp only [List.getElem_cons_zero] | simp only [List.getElem_cons_succ])
                refine anyT_takeU (i := 6) (v := ?_) (by decide) rfl (by kernel_rfl) (by kernel_rfl) (by kernel_rfl) (fun _ _ _ h => h) S0.out (by rfl) ?_ ?_
                rotate_left
                · intro W9 hSw
                  have c9 : W9.cell? ⟨ab, 1, none⟩ = some (.int .i64 xi) := cell_blk (i := 1) hSw rfl
                  clear hSw
                  go_simp
                  try with_reducible rfl
                simp only [Act.put, List.setIfInBounds_toArray]
                try simp only [List.set_cons_zero, List.set_cons_succ]
                try simp only [List.getElem_toArray]
                repeat (first | simp only [List.getElem_cons_zero] | simp only [List.getElem_cons_succ])
                refine anyT_takeU (i := 7) (v := ?_) (by decide) rfl (by kernel_rfl) (by kernel_rfl) (by kernel_rfl) (fun _ _ _ h => h) S0.out (by rfl) ?_ ?_
                rotate_left
                · intro W9 hSw
                  have c9 : W9.cell? ⟨ab, 1, none⟩ = some (.int .i64 xi) := cell_blk (i := 1) hSw rfl
                  clear hSw
                  go_simp
                  try with_reducible rfl
                simp only [Act.put, List.setIfInBounds_toArray]
                try simp only [List.set_cons_zero, List.set_cons_succ]
                try simp only [List.getElem_toArray]
                repeat (first | simp only [List.getElem_cons_zero] | simp only [List.getElem_cons_succ])
                refine anyT_takeU (i := 8) (v := ?_) (by decide) rfl (by kernel_rfl) (by kernel_rfl) (by kernel_rfl) (fun _ _ _ h => h) S0.out (by rfl) ?_ ?_
                rotate_left
                · intro W9 hSw
                  have c9 : W9.cell? ⟨ab, 1, none⟩ = some (.int .i64 xi) := cell_blk (i := 1) hSw rfl
                  clear hSw
                  go_simp
                  try with_reducible rfl
                simp only [Act.put, List.setIfInBounds_toArray]
                try simp only [List.set_cons_zero, List.set_cons_succ]
                try simp only [List.getElem_toArray]
                repeat (first | simp only [List.getElem_cons_zero] | simp only [List.getElem_cons_succ])
                refine anyT_one' (i := 4) (by kernel_rfl) rfl (by rfl) (fun K hK => ?_)
                have HK := Lib.hid hK
                clear hK
                unfold Oper.wp
                go_simp
                refine CW1.out.mono ?_
                rintro e9 w2 ⟨rfl, hs2, hk2⟩
                have HSa := Lib.hid hs2
                have HKa := Lib.hid hk2
                have HRa := Lib.hid (HR.out.drew.other HS.out.drew hk2)
                have S1 := Lib.hid ((hk2.block ab xl n1 n2).trans S0.out)
                have zl2 : ab < w2.heap.size := blk_lt S1.out
                clear hs2 hk2
                dsimp only
                refine HK.out _ _ (fun _ => S1.out) ?_
                clear HK K
                refine anyT_one' (i := 9) (by kernel_rfl) rfl (by rfl) (fun K hK => ?_)
                have HK := Lib.hid hK
                clear hK
                unfold Oper.wp
                go_simp
                refine (rwrite_any w2 rb q e2 L r HRa.out xi xd HL.out.wt HRM.out).mono ?_
                rintro e9 w3 ⟨he, hs3, hk3⟩
                rw [← HWR.out.1] at he
                subst he
                rw [← HWR.out.2.1] at hs3
                have S2 := Lib.hid ((hk3.block ab zl2 n3 n4).trans S1.out)
                have HJ := Lib.hid (HI.out.drew.step HR.out.drew HS.out.drew HSa.out HKa.out hs3 hk3 HWR.out.2.2 HWB.out.1 HWB.out.2)
                have HCX : Hid (w3.cell? ⟨ab, 1, none⟩ = some (.int .i64 xi) ∧ ab < w3.heap.size) := Lib.hid ⟨cell_blk (i := 1) S2.out rfl, blk_lt S2.out⟩
                clear hs3 hk3 HSa HKa HRa
                generalize (wrS L f xi xd).1 = E1 at *
                dsimp only
                refine HK.out _ _ (fun _ => S2.out) ?_
                clear HK K
                refine anyT_one' (i := 10) (by kernel_rfl) rfl (by rfl) (fun K hK => ?_)
                have HK := Lib.hid hK
                clear hK
                unfold Oper.wp
                go_simp
                refine HK.out _ _ (fun _ => S2.out) ?_
                clear HK K
                refine anyT_done (by kernel_rfl) ?_ _
                clear n1 n2 n3 n4 xl x0 x1 x2 x3
                go_wp2_with fail
                go_meet
                exact Lib.hid ⟨HJ.out, HCX.out⟩
              · have kb1 : (xk == 1) = false := beq_eq_false_iff_ne.2 k1
                by_cases k2 : xk = 2
                · have kb2 : (xk == 2) = true := by rw [k2]; rfl
                  clear k2
                  obtain ⟨L, f, r, hS, hR, hL, hw0, hw1⟩ := HI.out.h
                  have HS := Lib.hid hS
                  have HR := Lib.hid hR
                  have HL := Lib.hid hL
                  have HW := Lib.hid (And.intro hw0 hw1)
                  clear hS hR hL hw0 hw1
                  have n1 : ab ≠ sb := blk_ne HZA.out HS.out.box (by decide)
                  have n2 : ab ≠ g := by obtain ⟨ex, hx⟩ := HS.out.row; exact blk_ne HZA.out hx (by decide)
                  have n3 : ab ≠ rb := blk_ne HZA.out HR.out.box (by decide)
                  have n4 : ab ≠ q := by obtain ⟨ex, hx⟩ := HR.out.row; exact blk_ne HZA.out hx (by decide)
                  have HGX1 := HGX.out.2.1
                  have HGX2 := HGX.out.2.2.1
                  have b1 := bounds_i64 HGX1
                  have b2 := bounds_i64 HGX2
                  clear HGX1 HGX2
                  go_wp2_with fail
                  refine (fuse_any wa sb g c L f HS.out xi xn b1.2 b2).mono ?_
                  rintro e9 w2 ⟨rfl, hs2, hk2⟩
                  have HSa := Lib.hid hs2
                  have HKa := Lib.hid hk2
                  have HRa := Lib.hid (HR.out.other HS.out hk2)
                  have S1 := Lib.hid ((hk2.block ab xl n1 n2).trans HZA.out)
                  have y1 : w2.cell? ⟨ab, 1, none⟩ = some (.int .i64 xi) := cell_blk (i := 1) S1.out rfl
                  have y2 : w2.cell? ⟨ab, 2, none⟩ = some (.int .i64 xn) := cell_blk (i := 2) S1.out rfl
                  have yl := blk_lt S1.out
                  clear hs2 hk2
                  go_wp2_with fail
                  refine (rfuse_any w2 rb q e2 L r HRa.out xi xn).mono ?_
                  rintro e9 w3 ⟨rfl, hs3, hk3⟩
                  have S2 := Lib.hid ((hk3.block ab yl n3 n4).trans S1.out)
                  have HJ := Lib.hid (HI.out.step HR.out HS.out HSa.out HKa.out hs3 hk3 (HL.out.fuse' xi xn b1.2) HW.out.1 (by have h2 := HW.out.2; show f.wr ≤ _; omega))
                  have HCX : Hid (w3.cell? ⟨ab, 1, none⟩ = some (.int .i64 xi) ∧ ab < w3.heap.size) := Lib.hid ⟨cell_blk (i := 1) S2.out rfl, blk_lt S2.out⟩
                  clear hs3 hk3 HSa HKa HRa b1 b2 n1 n2 n3 n4 xl yl y1 y2 x0 x1 x2 x3
                  go_wp2_with fail
                  go_meet
                  exact Lib.hid ⟨HJ.out, HCX.out⟩
                · have kb2 : (xk == 2) = false := beq_eq_false_iff_ne.2 k2
                  by_cases k3 : xk = 3
                  · have kb3 : (xk == 3) = true := by rw [k3]; rfl
                    clear k3
                    obtain ⟨L, f, r, hS, hR, hL, hw0, hw1⟩ := HI.out.h
                    have HS := Lib.hid hS
                    have HR := Lib.hid hR
                    have HL := Lib.hid hL
                    have HW := Lib.hid (And.intro hw0 hw1)
                    clear hS hR hL hw0 hw1
                    have n1 : ab ≠ sb := blk_ne HZA.out HS.out.box (by decide)
                    have n2 : ab ≠ g := by obtain ⟨ex, hx⟩ := HS.out.row; exact blk_ne HZA.out hx (by decide)
                    have n3 : ab ≠ rb := blk_ne HZA.out HR.out.box (by decide)
                    have n4 : ab ≠ q := by obtain ⟨ex, hx⟩ := HR.out.row; exact blk_ne HZA.out hx (by decide)
                    go_wp2_with fail
                    refine (up_any wa sb g c L f HS.out).mono ?_
                    rintro e9 w2 ⟨rfl, hs2, hk2⟩
                    have HSa := Lib.hid hs2
                    have HKa := Lib.hid hk2
                    have HRa := Lib.hid (HR.out.other HS.out hk2)
                    have S1 := Lib.hid ((hk2.block ab xl n1 n2).trans HZA.out)
                    have yl := blk_lt S1.out
                    clear hs2 hk2
                    go_wp2_with fail
                    refine (rup_any w2 rb q e2 L r HRa.out).mono ?_
                    rintro e9 w3 ⟨rfl, hs3, hk3⟩
                    have S2 := Lib.hid ((hk3.block ab yl n3 n4).trans S1.out)
                    have HJ := Lib.hid (HI.out.step HR.out HS.out HSa.out HKa.out hs3 hk3 HL.out.up HW.out.1 (by have h2 := HW.out.2; show f.wr ≤ _; omega))
                    have HCX : Hid (w3.cell? ⟨ab, 1, none⟩ = some (.int .i64 xi) ∧ ab < w3.heap.size) := Lib.hid ⟨cell_blk (i := 1) S2.out rfl, blk_lt S2.out⟩
                    clear hs3 hk3 HSa HKa HRa n1 n2 n3 n4 xl yl x0 x1 x2 x3
                    go_wp2_with fail
                    go_meet
                    exact Lib.hid ⟨HJ.out, HCX.out⟩
                  · have kb3 : (xk == 3) = false := beq_eq_false_iff_ne.2 k3
                    have HJ := Lib.hid (HI.out.more (Nat.le_succ k))
                    have HCX : Hid (wa.cell? ⟨ab, 1, none⟩ = some (.int .i64 xi) ∧ ab < wa.heap.size) := Lib.hid ⟨x1, xl⟩
                    clear xl x1 x2 x3
                    go_wp2_with fail
                    go_meet
                    exact Lib.hid ⟨HJ.out, HCX.out⟩
          case rest =>
            clear HI HZA xl x0 x1 x2 x3
            obtain ⟨wv, hwv⟩ : ∃ wv, wv = wc := ⟨_, rfl⟩
            rw [← hwv] at hcut ⊢
            clear hwv
            have HJ := Lib.hid hcut.out.1
            have XB := Lib.hid hcut.out.2.1
            have XL := Lib.hid hcut.out.2.2
            clear hcut
            obtain ⟨L2, f2, r2, hS, hR, hL, hw0, hw1⟩ := HJ.out.h
            have HS2 := Lib.hid hS
            have HR2 := Lib.hid hR
            have HL2 := Lib.hid hL
            clear hS hR hL hw0 hw1
            have xq := XB.out
            go_wp2_with fail
            refine (read_any _ sb g c L2 f2 HS2.out xi).mono ?_
            rintro e3 w5 ⟨rfl, hb5⟩
            have HS5 := Lib.hid (HS2.out.below hb5)
            have HR5 := Lib.hid (HR2.out.below hb5)
            have HJ5 := Lib.hid (HJ.out.call hb5)
            have XB5 := Lib.hid ((hb5.cell (p := ⟨ab, 1, none⟩) XL.out).trans XB.out)
            clear xq hb5 HS2 HR2 HJ XB
            have xq := XB5.out
            go_wp2_with fail
            refine (rread_any _ rb q e2 L2 r2 HR5.out xi).mono ?_
            rintro e3 w6 ⟨rfl, hw⟩
            subst hw
            have cd := down_any w5.drew sb g c L2 f2 HS5.out.drew
            have cw := writes_any w5.drew sb g c L2 f2 HS5.out.drew
            have cb := blocks_any w5.drew sb g c L2 f2 HS5.out.drew
            obtain ⟨y0, -, -, y3, y4⟩ := HR5.out.drew.cells
            have yl := HR5.out.drew.lt
            rw [← HL2.out.down] at y3 ⊢
            rw [← HL2.out.many] at y4
            generalize readS L2 f2.down xi = RS at *
            generalize reachE L2.length f2.down xi = RE at *
            generalize f2.down = dn at *
            generalize f2.wr = wn at *
            generalize L2.length = ln at *
            have CD := Lib.hid (cd.mono (fun e w' (h : _ ∧ _) => (And.intro h.1 h.2.symm)))
            have CW := Lib.hid (cw.mono (fun e w' (h : _ ∧ _) => (And.intro h.1 h.2.symm)))
            have CBk := Lib.hid (cb.mono (fun e w' (h : _ ∧ _) => (And.intro h.1 h.2.symm)))
            have hnn : (dn != dn) = false := by cases dn <;> rfl
            have HJ6 := Lib.hid (HJ5.out.call (below_draws (Below.refl _ _) 1))
            clear xq cd cw cb
            go_wp2_with fail
            refine wp_region_still_lit (by kernel_rfl) (by kernel_rfl) ?_
            iterate 10 still_step
            still_call CD.out
            iterate 8 still_step
            still_call CW.out
            iterate 8 still_step
            still_call CBk.out
            iterate 7 still_step
            refine wpStill_nil ?_
            clear y0 y3 y4 yl hnn
            go_wp2_with fail
            go_roundw
            case rel => exact ⟨k + 1, hlt, hk4, by go_num, HJ6⟩
            case measure => simp [intOf]; omega
        · have hbig2 : (xd.size : Int) > 200 := by omega
          have HB := Lib.hid HIA.out.b
          rw [hwa] at HB
          clear hwa hab hza HIA HZA
          go_wp2_with fail
          go_ret
          exact ⟨rfl, HB.out⟩
      · obtain ⟨L, f, r, hS, hR, hL, hw0, hw1⟩ := HI.out.h
        have HB := Lib.hid HI.out.b
        have CB := Lib.hid (bytes_any wr sb g c L f hS)
        have HS := Lib.hid hS
        have HR := Lib.hid hR
        clear hS hR hL hw0 hw1
        obtain ⟨S, hS⟩ : ∃ S : ByteArray, (⟨L.flatten.toArray⟩ : ByteArray) = S := ⟨_, rfl⟩
        have HSE := Lib.hid hS
        clear hS
        by_cases hlt : k < l.length
        · have hlt1 : (k : Int) < (l.length : Int) := by omega
          have hlt2 : decide ((k : Int) < (l.length : Int)) = true := decide_eq_true hlt1
          have hk5 : ¬ (k : Int) < 100 := by omega
          go_wp2_with fail
          refine CB.out.mono ?_
          rintro e w5 ⟨rfl, hb5⟩
          rw [HSE.out]
          have HR5 := Lib.hid (HR.out.below hb5)
          have HB5 := Lib.hid (HB.out.trans (hb5.mono HB.out.size))
          clear hb5 CB
          go_wp2_with fail
          refine (rbytes_any w5 rb q e2 L r HR5.out).mono ?_
          rintro e w6 ⟨rfl, hw⟩
          subst hw
          rw [HSE.out]
          go_wp2_with fail
          go_ret
          exact ⟨rfl, HB5.out⟩
        · have hlt1 : ¬ (k : Int) < (l.length : Int) := by omega
          have hlt2 : decide ((k : Int) < (l.length : Int)) = false := decide_eq_false hlt1
          go_wp2_with fail
          refine CB.out.mono ?_
          rintro e w5 ⟨rfl, hb5⟩
          rw [HSE.out]
          have HR5 := Lib.hid (HR.out.below hb5)
          have HB5 := Lib.hid (HB.out.trans (hb5.mono HB.out.size))
          clear hb5 CB
          go_wp2_with fail
          refine (rbytes_any w5 rb q e2 L r HR5.out).mono ?_
          rintro e w6 ⟨rfl, hw⟩
          subst hw
          rw [HSE.out]
          go_wp2_with fail
          go_ret
          exact ⟨rfl, HB5.out⟩

theorem own : ownKnob Try.prog.godebug = none := by kernel_rfl
set_option maxRecDepth 100000 in
theorem lifted (os : Os) (started : os.Started) (H : Type) (enc : TypeId × Value → H) :
    ReturnsInHanded {} Try.checked os 5 .any (Rows.storeDoesSpec.pre6 enc Try.prog Try.f5 Rows.storeDoesRow.domain false) (Rows.storeDoesSpec.post enc Try.prog Try.f5 false true false false) := by
  refine returnsInHanded_of_change_sized (C := Try.checked) own started (by kernel_rfl) Try.func5
    (ChangeSpec.witness6 (enc := enc) (C := Try.checked) false ⟨#[], #[.int .i64 0, .slice none 0 0], []⟩ 8 (by kernel_rfl) (by kernel_rfl) (by kernel_rfl) (by kernel_rfl)) ?_
  intro W base args ds gs before hval0 hW _ hsz0 _
  have hsz : (DataW.weightsEach Try.prog (Try.f5.params.toList ++ Rows.storeDoesSpec.plain.varTypes Try.prog) (ds ++ gs)).all (· ≤ reachBytes) = true := hsz0
  have hval : ∀ (j : Nat) t v, Try.f5.params[j]? = some t → args[j]? = some v → Value.okWide Try.prog W .any base t v := hval0
  have hW' := hW
  obtain ⟨p, q, hA0, hV, rfl, _, _⟩ := hW
  have hA : DataW.TrodAll enc Try.prog W 0 (fun _ => true) true Try.f5.params.toList args.toList ds p := hA0
  rw [Try.params5] at hA hval hsz
  obtain ⟨v0, vs0, d0, ds0, p0, q0, hargs, rfl, rfl, h0, r0⟩ := trodAll_cons hA
  obtain ⟨v1, vs1, d1, ds1, p1, q1, e1, rfl, rfl, h1, r1⟩ := trodAll_cons r0
  obtain ⟨rfl, rfl, rfl⟩ := trodAll_nil r1
  subst e1
  obtain rfl : args = #[v0, v1] := by cases args; simp_all
  obtain ⟨rfl, rfl⟩ := trodVars_none hV
  obtain ⟨i0, rfl, hw0⟩ := open_int (hval 0 _ v0 rfl rfl) h0
  have hw1 : Wt Try.prog 57 d1 := Wt.of hsz (j := 1) rfl rfl
  obtain ⟨A1, c1, l1, rfl, hr1, hg1⟩ := open_sas (hval 1 _ v1 rfl rfl) h1 hw1
  clear hA0 hval0 hsz0
  simp only [List.append_nil] at hW'
  have hlt0 := fun x hx => hW'.lt x hx
  refine (walk W i0 A1 c1 l1 hr1 hg1).mono fun e W' ⟨he2, hg⟩ => ?_
  subst he2
  have hargs := (trodAll_cons_mk (Below.trod progLaid (by kernel_rfl) (of_decide_eq_true (by kernel_rfl)) h0 hg (fun x hx => hlt0 x (List.mem_append_left _ hx))) (trodAll_cons_mk (Below.trod progLaid (by kernel_rfl) (of_decide_eq_true (by kernel_rfl)) h1 hg (fun x hx => hlt0 x (List.mem_append_right _ (hx)))) (trodAll_mk0 (enc := enc) (P := Try.prog) (w := W'))))
  simp only [List.append_nil] at hargs
  exact ⟨_, rfl, _, _, _, [], p0 ++ (p1), [], hW', trodAll_cons_mk (shut_bool Try.underlying4 _) trodAll_mk0, hargs, rfl, hg.frame _, fun h => by cases h⟩

theorem proved : Rows.StoreDoesSaid :=
  OpenClaim.holds_of_wide 5 Try.f5 rfl rfl rfl rfl rfl rfl rfl ⟨rfl, rfl, rfl, rfl, rfl⟩ rfl rfl rfl rfl rfl (by kernel_rfl) Try.func5 (by kernel_rfl)
    (of_decide_eq_true (by kernel_rfl)) (by unfold Func.isWrapper; first | (rw [if_pos (by decide +kernel)]; kernel_rfl) | (rw [if_neg (by decide +kernel)]; exact ⟨rfl, rfl⟩))
    (fun os started H enc _ => lifted os started H enc)
end Go.Proofs.Ytcipgjelbnmdiaa.SDoes
