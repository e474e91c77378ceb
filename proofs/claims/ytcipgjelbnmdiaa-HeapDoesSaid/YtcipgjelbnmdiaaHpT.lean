/-
  Contracts of slices.SortedFunc at items, and of heap.List.
-/
import Derived.Test.YtcipgjelbnmdiaaHpS
namespace Go.Proofs.Ytcipgjelbnmdiaa.HP
open Go.RowKit Go.Shelf Go.Proofs.Ytcipgjelbnmdiaa.B
attribute [local go_sem] Oper.semAt_some

/-- What SortedFunc leaves: a row of one's own, in order. -/
def LsP (w : World) (s : Int) (L : List It) (e : Ending) (w' : World) : Prop :=
  ∃ (a : Option Addr) (c : Nat) (S : List It), e = .returned (.slice a S.length c) ∧ S.Perm L ∧ So s S 0 S.length ∧ w'.ownsRow w.heap.size 32 3 (.slice a S.length c) S.length (S.flatMap itC) ∧ Below w.heap.size w w'
set_option maxRecDepth 100000 in
set_option maxHeartbeats 2000000 in
theorem sorted_any (w : World) (hh : Nat) (s : Int) (L : List It) (bx : Nat) (hl : L.length ≤ 100000) (hc : w.cell? ⟨hh, 0, none⟩ = some (.int .i64 s))
    (hseq : ∀ W4, Below w.heap.size w W4 → SeqStopsK Fence.wide 5 Try.prog 63 #[pt bx] (fun x : It => #[itV x]) (Below w.heap.size) (fun ys => ys = L) (fun _ => True) L.length W4)
    (hp : ∀ w0 g c, w0.cell? ⟨hh, 0, none⟩ = some (.int .i64 s) → hh ≠ g → PdqC w0 g c hh s L) :
    Calls Try.prog 48 #[.func (.func 63) #[] #[pt bx], fv hh] w (LsP w s L) := by
  have CC := Lib.hid (collect_any w 63 #[pt bx] (enters_of Try.func63 (by kernel_rfl) rfl) L hl hseq)
  have HP := Lib.hid hp
  have HC := Lib.hid hc
  clear hseq hp hc
  go_enter Try.func48, Try.ntmps48
  go_wp2_with fail
  refine CC.out.mono ?_
  rintro e w1 ⟨a, c, rfl, hr, hb⟩
  by_cases h0 : L = []
  · subst h0
    have CS := Lib.hid (sort_none w1 a c (fv hh))
    have HR := Lib.hid hr
    have HB := Lib.hid hb
    clear hr hb
    simp only [List.length_nil] at *
    go_wp2_with fail
    refine CS.out.mono ?_
    rintro e w' ⟨rfl, rfl⟩
    go_wp2_with fail
    go_ret
    exact ⟨a, c, [], rfl, List.Perm.refl _, fun p q h1 h2 h3 => by simp at h3, HR.out, HB.out⟩
  · have hpos : 0 < L.length := List.length_pos_iff.2 h0
    obtain ⟨g, c', e1, hg⟩ : ∃ g c', (Value.slice a L.length c = .slice (some ⟨g, 0, none⟩) L.length c') ∧ w.heap.size ≤ g := by
      rcases hr.2 with ⟨_, hn⟩ | ⟨g, cap, cur, hv, hB, _⟩
      · omega
      · exact ⟨g, cap, hv, hB⟩
    injection e1 with e1 _ e2
    subst e1 e2
    have hlc := World.block_lt_of_cell? _ _ HC.out
    have hhg : hh ≠ g := fun e => by
      have : hh < w.heap.size := hlc
      omega
    have hSR : SR w1 g c L w1 := ⟨Kept.refl _ _, own_base hr (Nat.zero_le _)⟩
    have CS := Lib.hid (sortfunc_any w1 w1 g c hh s L hSR (HP.out w1 g c ((hb.cell (p := ⟨hh, 0, none⟩) hlc).trans HC.out) hhg) hl)
    have HB := Lib.hid hb
    have HG := Lib.hid hg
    clear hr hb hSR hg
    go_wp2_with fail
    refine CS.out.mono ?_
    rintro e w2 ⟨rfl, S, q1, q2, q3⟩
    have hS : S.length = L.length := q1.len
    have HQ := Lib.hid (And.intro q1 (And.intro q2 q3))
    have HS := Lib.hid hS
    clear q1 q2 q3 hS
    go_wp2_with fail
    go_ret
    refine ⟨some ⟨g, 0, none⟩, c, S, by rw [HS.out]; rfl, HQ.out.1.perm, by rw [HS.out]; exact HQ.out.2.1, ?_, ?_⟩
    · have h3 := HQ.out.2.2.r
      refine ⟨h3.1, ?_⟩
      rcases h3.2 with ⟨hv, _⟩ | ⟨g', cap, cur, hv, _, k3, k4⟩
      · cases hv
      · have hv' := hv
        injection hv' with e3 _ _
        injection e3 with e3
        injection e3 with e3 _ _
        exact .inr ⟨g', cap, cur, hv, by rw [← e3]; exact HG.out, k3, k4⟩
    · have h3 := HQ.out.2.2.k
      have hbl : Below w.heap.size w1 w2 := ⟨h3.os, h3.tape, h3.output, h3.size, fun k hk => h3.block k (Nat.lt_of_lt_of_le hk HB.out.size) (fun e => by have := HG.out; have e' : k = g := e; omega)⟩
      exact HB.out.trans hbl
set_option maxRecDepth 100000 in
set_option maxHeartbeats 2000000 in
theorem list_any (w : World) (hb : Nat) (A : HA) (s : Int) (L : List It) (h : HpI w hb A s L) (hp : ∀ w0 g c, w0.cell? ⟨hb, 0, none⟩ = some (.int .i64 s) → hb ≠ g → PdqC w0 g c hb s L) :
    Calls Try.prog 24 #[pt hb] w (LsP w s L) := by
  obtain ⟨ia, ic, pb⟩ := A
  have hl := h.lt
  have hfew := h.few
  have c1 : w.cell? ⟨hb, 1, none⟩ = some (.slice ia L.length ic) := cell_blk (i := 1) h.box rfl
  have c0 : w.cell? ⟨hb, 0, none⟩ = some (.int .i64 s) := cell_blk (i := 0) h.box rfl
  obtain ⟨W1, hW1⟩ : ∃ W1, W1 = w.alloc (.cells #[.slice ia L.length ic] 51) := ⟨_, rfl⟩
  have hB1 : Below w.heap.size w W1 := (by rw [hW1]; exact (Below.refl _ _).alloc (Nat.le_refl _) _)
  have hx1 : W1.heap[w.heap.size]? = some (.cells #[.slice ia L.length ic] 51 (0, 0)) := (by rw [hW1]; exact heap_new w _)
  have hz1 : W1.heap.size = w.heap.size + 1 := (by rw [hW1, World.size_alloc])
  have hR : RowAt W1.heap.size W1 ia L := fun i hi => by
    obtain ⟨B, hr⟩ := h.row
    obtain ⟨b, off, hA, hbl, k0⟩ := (Row.of_own hr).at_ (k := 3) (fun _ => rfl) (by omega) hi
    have j0 := (hB1.cell (p := ⟨b, off + i * 3 + 0, none⟩) hbl).trans (k0 0 _ rfl)
    have j1 := (hB1.cell (p := ⟨b, off + i * 3 + 1, none⟩) hbl).trans (k0 1 _ rfl)
    have j2 := (hB1.cell (p := ⟨b, off + i * 3 + 2, none⟩) hbl).trans (k0 2 _ rfl)
    exact ⟨b, off, hA, by omega, j0, j1, j2⟩
  have CS := Lib.hid (sorted_any W1 hb s L w.heap.size (by omega) ((hB1.cell (p := ⟨hb, 0, none⟩) hl).trans c0) (fun W4 h4 => values_seq W4 ia ic L (by omega) 5 (by omega) w.heap.size W1.heap.size ((h4.block _ (by omega)).trans hx1) (by omega) h4.size (hR.keep h4)) hp)
  have CV := Lib.hid ((callsIn_wide (n := 5)).1 (values_mk 5 ia L.length ic w))
  have HB1 := Lib.hid hB1
  clear h hp hR hB1 hx1 hz1 c0
  go_enter Try.func24, Try.ntmps24
  go_wp2_with fail
  refine CV.out.mono ?_
  rintro e w' ⟨rfl, hw'⟩
  rw [← hW1] at hw'
  subst hw'
  clear hW1
  go_wp2_with fail
  refine CS.out.mono ?_
  rintro e w2 ⟨a, c, S, rfl, q1, q2, q3, q4⟩
  have HQ := Lib.hid (And.intro q1 (And.intro q2 (And.intro q3 q4)))
  clear q1 q2 q3 q4
  go_wp2_with fail
  go_ret
  exact ⟨a, c, S, rfl, HQ.out.1, HQ.out.2.1, own_base HQ.out.2.2.1 HB1.out.size, HB1.out.trans (HQ.out.2.2.2.mono HB1.out.size)⟩
end Go.Proofs.Ytcipgjelbnmdiaa.HP
