/-
  Contract of package heap: take.
-/
import Derived.Test.YtcipgjelbnmdiaaHpI
import Derived.WalkSmall
namespace Go.Proofs.Ytcipgjelbnmdiaa.HP
open Go.RowKit Go.Shelf Go.Proofs.Ytcipgjelbnmdiaa.B Go.ChangeMaps
attribute [local go_sem] Oper.semAt_some

theorem flat_len (L : List It) : (L.flatMap itC).length = L.length * 3 := by
  induction L with
  | nil => rfl
  | cons x L ih => rw [List.flatMap_cons, List.length_append, ih, List.length_cons]; show 3 + _ = _; omega
theorem row_pop {w : World} {B g c n : Nat} {L : List It} (h : w.ownsRow B 32 3 (.slice (some ⟨g, 0, none⟩) L.length c) L.length (L.flatMap itC)) (hn : L.length = n + 1) :
    w.ownsRow B 32 3 (.slice (some ⟨g, 0, none⟩) n c) n ((L.take n).flatMap itC) := by
  refine ownsRow_pop (last := (L.drop n).flatMap itC) ?_ ?_
  · rw [flat_len, List.length_take, Nat.min_eq_left (by omega)]
  · rw [← List.flatMap_append, List.take_append_drop, ← hn]
    exact h
/-- What is left when the last goes. -/
theorem HW.popped {F : FW} {w W w5 : World} {hb g ic pb : Nat} {s : Int} {L : List It} {n : Nat} (h : HW F w hb ⟨some ⟨g, 0, none⟩, ic, pb⟩ s L) (hn : L.length = n + 1)
    (hW : W = w.setCell ⟨hb, 1, none⟩ (.slice (some ⟨g, 0, none⟩) n ic)) {f : Int → Option Nat} (hm : MI w5 pb (delF f L[n]!.id) n) (hp : PlOk L f) (hg : g ≠ hb) (hgp : g ≠ pb) (ht : W.drew.mapTurned w5 pb) :
    HW F w5 hb ⟨some ⟨g, 0, none⟩, ic, pb⟩ s (L.take n) := by
  have hlen : (L.take n).length = n := by rw [List.length_take]; omega
  have hbp : hb ≠ pb := fun e => by
    have h1 := h.h.box
    obtain ⟨_, ⟨D, ⟨es, c, h2, _⟩, _⟩, _⟩ := h.h.map
    have h2' : w.heap[pb]? = some (.map es c) := h2
    rw [e, h2'] at h1; cases h1
  have eb : w5.heap[hb]? = some (.cells #[.int .i64 s, .slice (some ⟨g, 0, none⟩) n ic, .map (some pb)] 82 (0, 0)) := by
    rw [turned_other ht hbp]
    show W.heap[hb]? = _
    rw [hW, blk_set h.h.box]
    rfl
  have eg : w5.heap[g]? = w.heap[g]? := by
    rw [turned_other ht hgp]
    show W.heap[g]? = _
    rw [hW, blk_other hg]
  have hK : Kept F W := by rw [hW]; exact h.b.setCell _ h.lb _
  refine ⟨hK.drew.turned ht h.lp, ⟨?_, ?_, ⟨_, ?_, hp.drop hn⟩, fun x hx => h.h.ok x (List.mem_of_mem_take hx), ?_, h.h.step⟩, h.lb, h.lp, h.li⟩
  · rw [hlen]; exact eb
  · obtain ⟨B, hr⟩ := h.h.row
    rw [hlen]
    exact ⟨B, own_keep' (row_pop hr hn) eg⟩
  · rw [hlen]; exact hm
  · have := h.h.few; rw [hlen]; omega
/-- A store elsewhere. -/
theorem HW.store {F : FW} {w : World} {hb : Nat} {A : HA} {s : Int} {L : List It} (h : HW F w hb A s L) {q : Nat} (hf : F.far q) (h1 : hb ≠ q) (h2 : A.pb ≠ q) (h3 : ∀ g off, A.ia = some ⟨g, off, none⟩ → g ≠ q) (i : Nat) (v : Value) : HW F (w.setCell ⟨q, i, none⟩ v) hb A s L := by
  refine ⟨h.b.setCell _ hf _, ⟨(blk_other h1).trans h.h.box, ?_, ?_, h.h.ok, h.h.few, h.h.step⟩, h.lb, h.lp, h.li⟩
  · obtain ⟨B, hr⟩ := h.h.row
    refine ⟨B, hr.1, ?_⟩
    rcases hr.2 with k1 | ⟨g, cap, cur, e1, e2, e3, e4⟩
    · exact .inl k1
    · refine .inr ⟨g, cap, cur, e1, e2, (blk_other ?_).trans e3, e4⟩
      injection e1 with e1 _ _
      exact h3 g 0 e1
  · obtain ⟨f, hm, hp⟩ := h.h.map
    exact ⟨f, hm.block (blk_other h2), hp⟩
theorem HW.put3 {F : FW} {w : World} {hb : Nat} {A : HA} {s : Int} {L : List It} (h : HW F w hb A s L) {q : Nat} (hf : F.far q) (h1 : hb ≠ q) (h2 : A.pb ≠ q) (h3 : ∀ g off, A.ia = some ⟨g, off, none⟩ → g ≠ q) (i : Nat) (x : It) : HW F (put3 w q i x) hb A s L :=
  ((h.store hf h1 h2 h3 _ _).store hf h1 h2 h3 _ _).store hf h1 h2 h3 _ _
theorem put3_blk {w : World} {b : Nat} {c0 c1 c2 : Value} {T : TypeId} {x : It} (h : w.heap[b]? = some (.cells #[c0, c1, c2] T (0, 0))) : (put3 w b 0 x).heap[b]? = some (.cells #[.int .i64 x.id, .int .i64 x.base, .int .i64 x.since] T (0, 0)) := by
  have h1 := blk_set (i := 0) (v := .int .i64 x.id) h
  have h2 := blk_set (i := 1) (v := .int .i64 x.base) h1
  exact blk_set (i := 2) (v := .int .i64 x.since) h2
theorem sw_take_perm {L : List It} {i n : Nat} (hn : L.length = n + 1) (hi : i < n + 1) : (L[i]! :: (sw L i n).take n).Perm L := by
  have h1 : (sw L i n) = (sw L i n).take n ++ [L[i]!] := by
    have hl : (sw L i n).length = n + 1 := by rw [sw_len, hn]
    have h2 := take_next (l := sw L i n) (k := n) (by omega)
    rw [List.take_of_length_le (by omega), sw_at (by omega) (by omega), if_pos rfl] at h2
    exact h2
  have h3 : (L[i]! :: (sw L i n).take n).Perm ((sw L i n).take n ++ [L[i]!]) := by
    have := List.perm_append_comm (l₁ := [L[i]!]) (l₂ := (sw L i n).take n)
    exact this
  rw [← h1] at h3
  exact h3.trans (sw_perm (by omega) (by omega))
set_option maxRecDepth 100000 in
set_option maxHeartbeats 4000000 in
theorem take_any (F : FW) (w : World) (hb : Nat) (A : HA) (s : Int) (L : List It) (h : HW F w hb A s L) (hO : HO s L) (n : Nat) (hn : L.length = n + 1) (i : Nat) (hi : i < n + 1) :
    Calls Try.prog 45 #[pt hb, .int .i64 (i : Int)] w fun e w' => e = .returned (itV L[i]!) ∧ ∃ L', (L[i]! :: L').Perm L ∧ HO s L' ∧ HW F w' hb A s L' := by
  obtain ⟨g, B, cur, hA, hgB, hgc, hgh, hgp, hgl, hrow⟩ := h.h.blk (by omega)
  obtain ⟨ia, ic, pb⟩ := A
  obtain rfl : ia = some ⟨g, 0, none⟩ := hA
  have hcap : n + 1 ≤ ic := (by rw [← hn]; exact (own_cap hrow).1)
  have hH := Lib.hid h
  have hO' := Lib.hid hO
  have HN : Hid (L.length = n + 1) := Lib.hid hn
  have hbox := h.h.box
  obtain ⟨⟨x0, x1, x2⟩, -⟩ := row_at hrow (i := i) (by omega) rfl
  have c1 : w.cell? ⟨hb, 1, none⟩ = some (.slice (some ⟨g, 0, none⟩) (n + 1) ic) := (by rw [← hn]; exact cell_blk (i := 1) hbox rfl)
  have hfew : n + 1 ≤ 1000 := (by have := h.h.few; omega)
  have hbl := h.h.lt
  have hpl := h.h.pl
  have i0 : (0 : Int) ≤ (i : Int) := Int.natCast_nonneg _
  have i1 : (i : Int) < (n : Int) + 1 := (by omega)
  obtain ⟨x, hx⟩ : ∃ x, x = L[i]! := ⟨_, rfl⟩
  rw [← hx] at x0 x1 x2 ⊢
  have HX := Lib.hid hx
  clear hx
  obtain ⟨xi, xb, xs⟩ := x
  simp only at x0 x1 x2
  obtain ⟨W1, hW1⟩ : ∃ W1, W1 = (w.alloc (.cells #[.int .i64 0, .int .i64 0, .int .i64 0] 32)).alloc (.cells #[.int .i64 xi, .int .i64 xb, .int .i64 xs] 32) := ⟨_, rfl⟩
  have hB1 : Below w.heap.size w W1 := (by rw [hW1]; exact ((Below.refl _ _).alloc (Nat.le_refl _) _).alloc (by rw [World.size_alloc]; omega) _)
  have HB1 := Lib.hid hB1
  have HI := Lib.hid (h.inner hB1)
  have HZ1 : Hid (W1.heap.size = w.heap.size + 2) := Lib.hid (by rw [hW1, World.size_alloc, World.size_alloc])
  have H4 : Hid (W1.heap[w.heap.size]? = some (.cells #[.int .i64 0, .int .i64 0, .int .i64 0] 32 (0, 0))) := Lib.hid (by rw [hW1]; exact (Below.heap_alloc _ _ _ (by rw [World.size_alloc]; omega)).trans (heap_new w _))
  have H5 : Hid (W1.heap[w.heap.size + 1]? = some (.cells #[.int .i64 xi, .int .i64 xb, .int .i64 xs] 32 (0, 0))) := Lib.hid (by rw [hW1, ← World.size_alloc w (.cells #[.int .i64 0, .int .i64 0, .int .i64 0] 32)]; exact heap_new _ _)
  have CS := Lib.hid (swap_any (F.inn w W1) W1 hb _ s L HI.out i n (by omega) (by omega))
  clear h hO hrow hgc hB1 hn hbox hgB
  go_enter Try.func45, Try.ntmps45
  go_wp2_with fail
  rw [← hW1]
  clear hW1
  refine CS.out.mono ?_
  rintro e W3 ⟨rfl, hH3⟩
  have HH3 := Lib.hid hH3
  have hb3 : W3.heap[hb]? = some (.cells #[.int .i64 s, .slice (some ⟨g, 0, none⟩) (n + 1) ic, .map (some pb)] 82 (0, 0)) := (by have := hH3.h.box; rw [sw_len, HN.out] at this; exact this)
  have c3 : W3.cell? ⟨hb, 1, none⟩ = some (.slice (some ⟨g, 0, none⟩) (n + 1) ic) := cell_blk (i := 1) hb3 rfl
  have f3 := frozen_blk (i := 1) hb3
  have hbl3 : hb < W3.heap.size := blk_lt hb3
  have h45 : W3.heap[w.heap.size + 1]? = some (.cells #[.int .i64 xi, .int .i64 xb, .int .i64 xs] 32 (0, 0)) := (hH3.b.mid (by omega) (by have := HZ1.out; omega)).trans H5.out
  have h44 : W3.heap[w.heap.size]? = some (.cells #[.int .i64 0, .int .i64 0, .int .i64 0] 32 (0, 0)) := (hH3.b.mid (by omega) (by have := HZ1.out; omega)).trans H4.out
  obtain ⟨W4, hW4⟩ : ∃ W4, W4 = W3.setCell ⟨hb, 1, none⟩ (.slice (some ⟨g, 0, none⟩) n ic) := ⟨_, rfl⟩
  have b5 : W4.heap[w.heap.size + 1]? = some (.cells #[.int .i64 xi, .int .i64 xb, .int .i64 xs] 32 (0, 0)) := (by rw [hW4]; exact (blk_other (by omega)).trans h45)
  have b4 : W4.heap[hb]? = some (.cells #[.int .i64 s, .slice (some ⟨g, 0, none⟩) n ic, .map (some pb)] 82 (0, 0)) := (by rw [hW4, blk_set hb3]; rfl)
  have d0 : W4.drew.cell? ⟨w.heap.size + 1, 0, none⟩ = some (.int .i64 xi) := cell_blk (i := 0) b5 rfl
  have d2 : W4.drew.cell? ⟨hb, 2, none⟩ = some (.map (some pb)) := cell_blk (i := 2) b4 rfl
  obtain ⟨f, hMI, hPl⟩ := hH3.h.map
  rw [sw_len, HN.out] at hMI
  have hMI4 : MI W4.drew pb f (n + 1) := hMI.block (by show W4.heap[pb]? = _; rw [hW4]; exact blk_other (fun e => by
    obtain ⟨D, ⟨es, c, h2, _⟩, _⟩ := hMI
    rw [e, hb3] at h2; cases h2))
  have hid : (sw L i n)[n]!.id = xi := (by rw [sw_at (by have := HN.out; omega) (by have := HN.out; omega), if_pos rfl, ← HX.out])
  have hfx := hPl.at_ n (by rw [sw_len, HN.out]; omega)
  rw [hid] at hfx
  have hokx := hH3.h.ok _ (mem_at (l := sw L i n) (i := n) (by rw [sw_len, HN.out]; omega))
  obtain ⟨W5, hd, hM5, ht5⟩ := hMI4.drop (i := xi) (by rw [← hid]; exact hokx.id) (by rw [hfx]; rfl) 0
  have hP5 := hH3.popped (by rw [sw_len]; exact HN.out) hW4 (by rw [hid]; exact hM5) hPl hgh hgp ht5
  have HP5 := Lib.hid hP5
  have hz5 : W5.heap[w.heap.size + 1]? = some (.cells #[.int .i64 xi, .int .i64 xb, .int .i64 xs] 32 (0, 0)) := (hP5.b.mid (by omega) (by have := HZ1.out; omega)).trans H5.out
  clear hMI hMI4 hPl hfx hokx hM5 hH3 hP5 h44 h45 hid
  go_upto_region 5 with fail
  rw [← hW4]
  clear hW4 hb3 c3 f3
  refine wp_region_still_tail 6 mixed (by kernel_rfl) ?_
  simp only [List.take_succ_cons, List.take_zero, List.drop_succ_cons, List.drop_zero]
  have hbl4 : hb < W4.drew.heap.size := blk_lt b4
  have hbl5 : w.heap.size + 1 < W4.drew.heap.size := blk_lt b5
  iterate 6 still_step
  refine wpStill_nil ?_
  go_upto_region 6 with fail
  clear hd d0 d2 b4 b5 hbl4 hbl5 ht5 c1 x0 x1 x2
  have hz5' := hz5
  clear hz5
  have HPM0 := Lib.hid (sw_take_perm HN.out hi)
  rw [← HX.out] at HPM0
  by_cases hin : i < n
  · have hin' : (i : Int) < (n : Int) := (by omega)
    have hl5 : i < ((sw L i n).take n).length := (by rw [List.length_take, sw_len, HN.out]; omega)
    have CF := Lib.hid (sift_any (F.inn w W1) W5 hb _ s _ HP5.out i hl5 (take_ex hO'.out HN.out hin))
    go_wp2_with fail
    refine CF.out.mono ?_
    rintro e W6 ⟨rfl, L6, hpm6, hO6, hH6⟩
    have HPM := Lib.hid ((hpm6.cons ⟨xi, xb, xs⟩).trans HPM0.out)
    have HO6 := Lib.hid hO6
    have HH6 := Lib.hid hH6
    have hz6 : W6.heap[w.heap.size + 1]? = some (.cells #[.int .i64 xi, .int .i64 xb, .int .i64 xs] 32 (0, 0)) := (hH6.b.mid (by omega) (by have := HZ1.out; omega)).trans H5.out
    have h46 : W6.heap[w.heap.size]? = some (.cells #[.int .i64 0, .int .i64 0, .int .i64 0] 32 (0, 0)) := (hH6.b.mid (by omega) (by have := HZ1.out; omega)).trans H4.out
    clear hpm6 hO6 hH6
    have y0 : W6.cell? ⟨w.heap.size, 0, none⟩ = some (.int .i64 0) := cell_blk (i := 0) h46 rfl
    have y1 : W6.cell? ⟨w.heap.size, 1, none⟩ = some (.int .i64 0) := cell_blk (i := 1) h46 rfl
    have y2 : W6.cell? ⟨w.heap.size, 2, none⟩ = some (.int .i64 0) := cell_blk (i := 2) h46 rfl
    have e0 : W6.cell? ⟨w.heap.size + 1, 0, none⟩ = some (.int .i64 xi) := cell_blk (i := 0) hz6 rfl
    have e1 : W6.cell? ⟨w.heap.size + 1, 1, none⟩ = some (.int .i64 xb) := cell_blk (i := 1) hz6 rfl
    have e2 : W6.cell? ⟨w.heap.size + 1, 2, none⟩ = some (.int .i64 xs) := cell_blk (i := 2) hz6 rfl
    have hl6 := blk_lt hz6
    have z : (((W6.setCell ⟨w.heap.size, 0, none⟩ (.int .i64 xi)).setCell ⟨w.heap.size, 1, none⟩ (.int .i64 xb)).setCell ⟨w.heap.size, 2, none⟩ (.int .i64 xs)).heap[w.heap.size]? = some (.cells #[.int .i64 xi, .int .i64 xb, .int .i64 xs] 32 (0, 0)) := put3_blk (x := ⟨xi, xb, xs⟩) h46
    have z0 : (((W6.setCell ⟨w.heap.size, 0, none⟩ (.int .i64 xi)).setCell ⟨w.heap.size, 1, none⟩ (.int .i64 xb)).setCell ⟨w.heap.size, 2, none⟩ (.int .i64 xs)).cell? ⟨w.heap.size, 0, none⟩ = some (.int .i64 xi) := cell_blk (i := 0) z rfl
    have z1 : (((W6.setCell ⟨w.heap.size, 0, none⟩ (.int .i64 xi)).setCell ⟨w.heap.size, 1, none⟩ (.int .i64 xb)).setCell ⟨w.heap.size, 2, none⟩ (.int .i64 xs)).cell? ⟨w.heap.size, 1, none⟩ = some (.int .i64 xb) := cell_blk (i := 1) z rfl
    have z2 : (((W6.setCell ⟨w.heap.size, 0, none⟩ (.int .i64 xi)).setCell ⟨w.heap.size, 1, none⟩ (.int .i64 xb)).setCell ⟨w.heap.size, 2, none⟩ (.int .i64 xs)).cell? ⟨w.heap.size, 2, none⟩ = some (.int .i64 xs) := cell_blk (i := 2) z rfl
    have f4 := frozen_blk (i := 0) h46
    have f41 := frozen_blk (i := 1) h46
    have f42 := frozen_blk (i := 2) h46
    clear h46 hz6 z
    go_wp2_with fail
    exact bodyPost_ret (v := itV ⟨xi, xb, xs⟩) (by simp [results, Try.results45, go_sem, z0, z1, z2]) rfl ⟨rfl, _, HPM.out, HO6.out, (hH.out.outer HB1.out HH6.out).put3 (q := w.heap.size) (.inr hH.out.b.size) (by omega) (by show pb ≠ _; omega) (fun g' off e => by injection e with e; injection e with e _ _; omega) 0 ⟨xi, xb, xs⟩⟩
  · obtain rfl : i = n := (by omega)
    have HPM := HPM0
    have HO6 := Lib.hid (take_last hO'.out HN.out)
    have HH6 := HP5
    have hz6 := hz5'
    have h46 : W5.heap[w.heap.size]? = some (.cells #[.int .i64 0, .int .i64 0, .int .i64 0] 32 (0, 0)) := (HP5.out.b.mid (by omega) (by have := HZ1.out; omega)).trans H4.out
    have y0 : W5.cell? ⟨w.heap.size, 0, none⟩ = some (.int .i64 0) := cell_blk (i := 0) h46 rfl
    have y1 : W5.cell? ⟨w.heap.size, 1, none⟩ = some (.int .i64 0) := cell_blk (i := 1) h46 rfl
    have y2 : W5.cell? ⟨w.heap.size, 2, none⟩ = some (.int .i64 0) := cell_blk (i := 2) h46 rfl
    have e0 : W5.cell? ⟨w.heap.size + 1, 0, none⟩ = some (.int .i64 xi) := cell_blk (i := 0) hz6 rfl
    have e1 : W5.cell? ⟨w.heap.size + 1, 1, none⟩ = some (.int .i64 xb) := cell_blk (i := 1) hz6 rfl
    have e2 : W5.cell? ⟨w.heap.size + 1, 2, none⟩ = some (.int .i64 xs) := cell_blk (i := 2) hz6 rfl
    have hl6 := blk_lt hz6
    have z : (((W5.setCell ⟨w.heap.size, 0, none⟩ (.int .i64 xi)).setCell ⟨w.heap.size, 1, none⟩ (.int .i64 xb)).setCell ⟨w.heap.size, 2, none⟩ (.int .i64 xs)).heap[w.heap.size]? = some (.cells #[.int .i64 xi, .int .i64 xb, .int .i64 xs] 32 (0, 0)) := put3_blk (x := ⟨xi, xb, xs⟩) h46
    have z0 : (((W5.setCell ⟨w.heap.size, 0, none⟩ (.int .i64 xi)).setCell ⟨w.heap.size, 1, none⟩ (.int .i64 xb)).setCell ⟨w.heap.size, 2, none⟩ (.int .i64 xs)).cell? ⟨w.heap.size, 0, none⟩ = some (.int .i64 xi) := cell_blk (i := 0) z rfl
    have z1 : (((W5.setCell ⟨w.heap.size, 0, none⟩ (.int .i64 xi)).setCell ⟨w.heap.size, 1, none⟩ (.int .i64 xb)).setCell ⟨w.heap.size, 2, none⟩ (.int .i64 xs)).cell? ⟨w.heap.size, 1, none⟩ = some (.int .i64 xb) := cell_blk (i := 1) z rfl
    have z2 : (((W5.setCell ⟨w.heap.size, 0, none⟩ (.int .i64 xi)).setCell ⟨w.heap.size, 1, none⟩ (.int .i64 xb)).setCell ⟨w.heap.size, 2, none⟩ (.int .i64 xs)).cell? ⟨w.heap.size, 2, none⟩ = some (.int .i64 xs) := cell_blk (i := 2) z rfl
    have f4 := frozen_blk (i := 0) h46
    have f41 := frozen_blk (i := 1) h46
    have f42 := frozen_blk (i := 2) h46
    clear h46 hz6 z
    go_wp2_with fail
    exact bodyPost_ret (v := itV ⟨xi, xb, xs⟩) (by simp [results, Try.results45, go_sem, z0, z1, z2]) rfl ⟨rfl, _, HPM.out, HO6.out, (hH.out.outer HB1.out HH6.out).put3 (q := w.heap.size) (.inr hH.out.b.size) (by omega) (by show pb ≠ _; omega) (fun g' off e => by injection e with e; injection e with e _ _; omega) 0 ⟨xi, xb, xs⟩⟩
end Go.Proofs.Ytcipgjelbnmdiaa.HP
