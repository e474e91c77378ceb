/-
  awake of the laws of layer 9.
-/
import Derived.Test.YtcipgjelbnmdiaaHpU
namespace Go.Proofs.Ytcipgjelbnmdiaa.HP
open Go.RowKit Go.Shelf Go.Proofs.Ytcipgjelbnmdiaa.B
attribute [local go_sem] Oper.semAt_some

def i1 : It := ⟨1, 0, 0⟩
def i2 : It := ⟨2, 1, 5⟩
def i3 : It := ⟨3, 1, 20⟩
def i9 : It := ⟨9, 10, 0⟩
set_option maxRecDepth 100000 in
set_option maxHeartbeats 4000000 in
theorem awake_any (w : World) : Calls Try.prog 9 #[] w fun e w' => e = .returned (.bool true) ∧ Below w.heap.size w w' := by
  have CN := Lib.hid (new_yes w 10 (by omega) (by omega) (fun _ => False))
  go_enter Try.func9, Try.ntmps9
  go_wp2_with fail
  refine CN.out.mono ?_
  rintro e W0 ⟨rfl, hb0, hw0⟩
  obtain ⟨hb, hhb⟩ : ∃ hb, hb = w.heap.size + 1 := ⟨_, rfl⟩
  rw [← hhb] at hw0 ⊢
  have hH0 : HS ⟨w, fun _ => False⟩ W0 hb 10 [] := ⟨⟨_, [], List.Perm.refl _, fun j h1 h2 => (by simp at h2), hw0⟩, List.Pairwise.nil⟩
  have HH := Lib.hid hH0
  have CM := Lib.hid (new_no W0 0 (by omega))
  have CP := Lib.hid (hs_peek _ W0 hb 10 [] HH.out)
  clear hb0 hw0 hH0 CN hhb
  go_wp2_with fail
  refine CM.out.mono ?_
  rintro e W0' ⟨rfl, hww⟩
  subst hww
  go_wp2_with fail
  refine CP.out.mono ?_
  rintro e W1 ⟨rfl, hb1⟩
  obtain ⟨W2, hW2⟩ : ∃ W2, W2 = W1.alloc (.cells #[.int .i64 0, .int .i64 0, .int .i64 0] 32) := ⟨_, rfl⟩
  replace HH := Lib.hid ((HH.out.call hb1).call (w' := W2) (by rw [hW2]; exact (Below.refl _ _).alloc (Nat.le_refl _) _))
  clear hb1 CM CP
  go_upto_region 6 with fail
  show Code.wp _ _ _ _ (W1.alloc (.cells #[.int .i64 0, .int .i64 0, .int .i64 0] 32))
  rw [← hW2]
  clear hW2
  have C0 := Lib.hid (hs_put _ W2 hb 10 [] HH.out i1 (by decide))
  rw [show putE [] i1 = 0 from by decide, if_pos rfl, show insI 10 [] i1 = [i1] from by decide] at C0
  go_wp2_with fail
  refine C0.out.mono ?_
  rintro e P0 ⟨rfl, hn0⟩
  replace HH := Lib.hid hn0
  clear hn0 C0
  have C1 := Lib.hid (hs_put _ P0 hb 10 [i1] HH.out i2 (by decide))
  rw [show putE [i1] i2 = 0 from by decide, if_pos rfl, show insI 10 [i1] i2 = [i2, i1] from by decide] at C1
  go_wp2_with fail
  refine C1.out.mono ?_
  rintro e P1 ⟨rfl, hn1⟩
  replace HH := Lib.hid hn1
  clear hn1 C1
  have C2 := Lib.hid (hs_put _ P1 hb 10 [i2, i1] HH.out i3 (by decide))
  rw [show putE [i2, i1] i3 = 0 from by decide, if_pos rfl, show insI 10 [i2, i1] i3 = [i2, i1, i3] from by decide] at C2
  go_wp2_with fail
  refine C2.out.mono ?_
  rintro e P2 ⟨rfl, hn2⟩
  replace HH := Lib.hid hn2
  clear hn2 C2
  have C3 := Lib.hid (hs_put _ P2 hb 10 [i2, i1, i3] HH.out i1 (by decide))
  rw [show putE [i2, i1, i3] i1 = 6 from by decide, if_neg (by decide)] at C3
  go_wp2_with fail
  refine C3.out.mono ?_
  rintro e P3 ⟨rfl, hn3⟩
  replace HH := Lib.hid hn3
  clear hn3 C3
  have C4 := Lib.hid (hs_put _ P3 hb 10 [i2, i1, i3] HH.out i9 (by decide))
  rw [show putE [i2, i1, i3] i9 = 3 from by decide, if_neg (by decide)] at C4
  go_wp2_with fail
  refine C4.out.mono ?_
  rintro e P4 ⟨rfl, hn4⟩
  replace HH := Lib.hid hn4
  clear hn4 C4
  have CL := Lib.hid (hs_list _ P4 hb 10 [i2, i1, i3] HH.out (fun L hl hok => pdq_few (by rw [hl]; decide) hok))
  go_wp2_with fail
  refine CL.out.mono ?_
  rintro e V1 ⟨a, c, rfl, hr1, hb1⟩
  obtain ⟨g, hga, hg0, hgc⟩ : ∃ g, a = some ⟨g, 0, none⟩ ∧ P4.heap.size ≤ g ∧ g < V1.heap.size := by
    rcases hr1.2 with ⟨_, hn⟩ | ⟨g, cap, cur, hv, hB, hg, _⟩
    · exact absurd hn (by decide)
    · injection hv with e _ _
      exact ⟨g, e, hB, blk_lt hg⟩
  subst hga
  have r0 : V1.cell? ⟨g, 0, none⟩ = some (.int .i64 2) := hr1.cellAt 0 (by decide)
  have r3 : V1.cell? ⟨g, 3, none⟩ = some (.int .i64 1) := hr1.cellAt 3 (by decide)
  have HH0 := HH
  have HB1 := Lib.hid hb1
  have HG := Lib.hid (And.intro hg0 hgc)
  have HR0 := Lib.hid r0
  have HR3 := Lib.hid r3
  replace HH := Lib.hid (HH.out.inner hb1)
  have CW := Lib.hid (hs_weight _ V1 hb 10 [i2, i1, i3] HH.out 2 7 (by decide))
  rw [show (if hasB [i2, i1, i3] 2 = true then wgt 10 (getI [i2, i1, i3] 2) 7 else 0) = 12 from by decide, show hasB [i2, i1, i3] 2 = true from by decide] at CW
  clear hb1 hr1 hg0 hgc r0 r3 CL
  go_wp2_with fail
  refine CW.out.mono ?_
  rintro e V2 ⟨rfl, hb2⟩
  replace HH := Lib.hid (HH.out.call hb2)
  have CP := Lib.hid (hs_pop _ V2 hb 10 [i2, i1, i3] HH.out)
  rw [show ([i2, i1, i3] : List It)[0]! = ⟨2, 1, 5⟩ from rfl, show decide (0 < ([i2, i1, i3] : List It).length) = true from rfl, show ([i2, i1, i3] : List It).tail = [i1, i3] from rfl] at CP
  clear hb2 CW
  go_wp2_with fail
  refine CP.out.mono ?_
  rintro e V3 ⟨rfl, hn⟩
  replace HH := Lib.hid hn
  clear hn CP
  obtain ⟨V4, hV4⟩ : ∃ V4, V4 = V3.alloc (.cells #[.int .i64 2, .int .i64 1, .int .i64 5] 32) := ⟨_, rfl⟩
  have hb4 : Below V3.heap.size V3 V4 := by rw [hV4]; exact (Below.refl _ _).alloc (Nat.le_refl _) _
  have HX4 : Hid (V4.heap[V3.heap.size]? = some (.cells #[.int .i64 2, .int .i64 1, .int .i64 5] 32 (0, 0))) := Lib.hid (by rw [hV4]; exact heap_new V3 _)
  have hz4 : V3.heap.size < V4.heap.size := by rw [hV4, World.size_alloc]; omega
  have HB4 := Lib.hid hb4
  have HH3 := HH
  replace HH := Lib.hid (HH.out.inner hb4)
  have CR := Lib.hid (hs_remove _ V4 hb 10 [i1, i3] HH.out 3 (by decide))
  rw [show getI [i1, i3] 3 = ⟨3, 1, 20⟩ from by decide, show hasB [i1, i3] 3 = true from by decide, show rmI [i1, i3] 3 = [i1] from by decide] at CR
  clear hb4
  go_upto_region 12 with fail
  show Code.wp _ _ _ _ (V3.alloc (.cells #[.int .i64 2, .int .i64 1, .int .i64 5] 32))
  rw [← hV4]
  clear hV4
  go_wp2_with fail
  refine CR.out.mono ?_
  rintro e V5 ⟨rfl, hn⟩
  have hx5 : V5.heap[V3.heap.size]? = some (.cells #[.int .i64 2, .int .i64 1, .int .i64 5] 32 (0, 0)) := (hn.k.mid (Nat.le_refl _) hz4).trans HX4.out
  have h51 := HH3.out.outer HB4.out hn
  have hg5 : V5.heap[g]? = V1.heap[g]? := h51.k.mid HG.out.1 HG.out.2
  have h50 := Lib.hid (HH0.out.outer HB1.out h51)
  obtain ⟨V6, hV6⟩ : ∃ V6, V6 = V5.alloc (.cells #[.int .i64 3, .int .i64 1, .int .i64 20] 32) := ⟨_, rfl⟩
  have hb6 : Below V5.heap.size V5 V6 := by rw [hV6]; exact (Below.refl _ _).alloc (Nat.le_refl _) _
  have hg5l : g < V5.heap.size := by
    have h1 := h51.k.size
    have h2 := HG.out.2
    have h3 : V1.heap.size ≤ V5.heap.size := h1
    omega
  have HN : Hid (Below w.heap.size w V6) := Lib.hid (by
    have h9 := (h50.out.call hb6).k
    exact ⟨h9.os, h9.tape, h9.output, h9.size, fun k hk => h9.block k hk (fun h => h)⟩)
  have CL1 := Lib.hid (hs_len _ V6 hb 10 [i1] (h50.out.call hb6))
  have CH1 := Lib.hid (hs_has _ V6 hb 10 [i1] (h50.out.call hb6) 1 (by decide))
  have CH2 := Lib.hid (hs_has _ V6 hb 10 [i1] (h50.out.call hb6) 2 (by decide))
  rw [show hasB [i1] 1 = true from by decide] at CH1
  rw [show hasB [i1] 2 = false from by decide] at CH2
  rw [show (([i1] : List It).length : Int) = 1 from rfl] at CL1
  have c0 : V6.cell? ⟨g, 0, none⟩ = some (.int .i64 2) := (hb6.cell (p := ⟨g, 0, none⟩) hg5l).trans ((World.cell?_of_block (w := V1) hg5).trans HR0.out)
  have c3 : V6.cell? ⟨g, 3, none⟩ = some (.int .i64 1) := (hb6.cell (p := ⟨g, 3, none⟩) hg5l).trans ((World.cell?_of_block (w := V1) hg5).trans HR3.out)
  have hx5l := blk_lt hx5
  have e0 : V6.cell? ⟨V3.heap.size, 0, none⟩ = some (.int .i64 2) := cell_blk (i := 0) ((hb6.block _ hx5l).trans hx5) rfl
  have hx6 : V6.heap[V5.heap.size]? = some (.cells #[.int .i64 3, .int .i64 1, .int .i64 20] 32 (0, 0)) := by rw [hV6]; exact heap_new V5 _
  have e2 : V6.cell? ⟨V5.heap.size, 2, none⟩ = some (.int .i64 20) := cell_blk (i := 2) hx6 rfl
  have l1 : g < V6.heap.size := Nat.lt_of_lt_of_le hg5l hb6.size
  have l2 : V3.heap.size < V6.heap.size := Nat.lt_of_lt_of_le hx5l hb6.size
  have l3 := blk_lt hx6
  have c05 : V5.cell? ⟨g, 0, none⟩ = some (.int .i64 2) := (World.cell?_of_block (w := V1) hg5).trans HR0.out
  have c35 : V5.cell? ⟨g, 3, none⟩ = some (.int .i64 1) := (World.cell?_of_block (w := V1) hg5).trans HR3.out
  have e05 : V5.cell? ⟨V3.heap.size, 0, none⟩ = some (.int .i64 2) := cell_blk (i := 0) hx5 rfl
  clear hn hx5 h51 hg5 hb6 hx6 CR HX4 hz4
  subst hV6
  go_wp2_with fail
  refine CL1.out.mono ?_
  rintro e V6 ⟨rfl, hww⟩
  subst hww
  go_wp2_with fail
  refine CH1.out.mono ?_
  rintro e V6 ⟨rfl, hww⟩
  subst hww
  go_wp2_with fail
  refine CH2.out.mono ?_
  rintro e V6 ⟨rfl, hww⟩
  subst hww
  go_wp2_with fail
  go_ret
  exact ⟨rfl, HN.out⟩
end Go.Proofs.Ytcipgjelbnmdiaa.HP
