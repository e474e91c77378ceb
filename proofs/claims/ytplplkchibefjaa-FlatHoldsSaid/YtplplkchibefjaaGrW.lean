/-
  Contracts of graph.mayBe, eventAt, groupAt and Find.
-/
import Derived.Test.YtplplkchibefjaaGrV
namespace Go.Proofs.Ytplplkchibefjaa
open Go.RowKit Go.Shelf

theorem mayL_eq (g : Gr) : (((checkL g).2.2 : Int) == 0) = mayL g := by
  rw [Bool.eq_iff_iff, beq_iff_eq]; simp only [mayL, decide_eq_true_eq]; omega
set_option maxRecDepth 100000 in
set_option maxHeartbeats 1000000 in
theorem mayBe_any (w : World) (g : Gr) (hI : InG w g) (hz : SzG g) (hcap : ∀ u ∈ g.us, u.roles.length ≤ u.rc) :
    Calls Try.prog 127 #[.agg #[.slice g.ga g.gs.length g.gc, .slice g.ea g.es.length g.ec, .slice g.ra g.rs.length g.rc, .slice g.ua g.us.length g.uc]] w fun e w' => e = .returned (.bool (mayL g)) ∧ Below w.heap.size w w' := by
  have hb0 : Below w.heap.size w (w.alloc (.cells #[.slice g.ga g.gs.length g.gc, .slice g.ea g.es.length g.ec, .slice g.ra g.rs.length g.rc, .slice g.ua g.us.length g.uc] 27)) := (Below.refl _ _).alloc (Nat.le_refl _) _
  have C := Lib.hid (check_any _ g (hI.below (Nat.le_refl _) hb0) hz hcap)
  have HM := Lib.hid (mayL_eq g)
  clear hI hz hcap
  generalize checkL g = s at *
  go_enter Try.func127, Try.ntmps127
  go_wp2_with (go_at_call 48; refine C.out.mono ?_; rintro e w1 ⟨rfl, hb1⟩)
  go_ret
  exact ⟨ret_bool HM.out, (hb0.trans (hb1.mono hb0.size)).alloc (by have := hb1.size; have := hb0.size; omega) _⟩
def named {α : Type} (nm : α → ByteArray) (s : ByteArray) (x : α) : Bool := (nm x).toList == s.toList

set_option maxHeartbeats 400000 in
theorem named_ev (p : Ev) (s : ByteArray) (B : Nat) (w : World) (hB : w.cell? ⟨B, 0, none⟩ = some (.string s)) : Calls Try.prog 140 #[.agg #[.string p.name, .string p.group, .string p.role, .bool p.inn, .bool p.done, .int .i64 p.due], .pointer (some ⟨B, 0, none⟩)] w fun e w' => e = .returned (.bool (named Ev.name s p)) ∧ Below w.heap.size w w' := by
  have hBl := World.block_lt_of_cell? _ _ hB
  go_enter Try.func140, Try.ntmps140
  go_wp2_with fail
  go_ret
  exact ⟨rfl, (Below.refl _ _).alloc (Nat.le_refl _) _⟩
set_option maxRecDepth 100000 in
set_option maxHeartbeats 1000000 in
theorem idxN_ev (A : Option Addr) (c B : Nat) (l : List Ev) (s : ByteArray) (w : World) (hr : Row w A (l.flatMap evC)) (hl : l.length * 64 ≤ 140737488351232) (hB : w.cell? ⟨B, 0, none⟩ = some (.string s)) :
    Calls Try.prog 139 #[.slice A l.length c, .func (.func 140) #[] #[.pointer (some ⟨B, 0, none⟩)]] w fun e w' => e = .returned (.int .i64 (idxB (named Ev.name s) l)) ∧ Below w.heap.size w w' := by
  have hBl : B < w.heap.size := World.block_lt_of_cell? _ _ hB
  have HBB := Lib.hid hB
  clear hB
  go_enter Try.func139, Try.ntmps139
  go_wp2
  go_loopw [5, 8] (fun _ i wr => ∃ k : Nat, k ≤ l.length ∧ i = .int .i64 k ∧ Hid (∀ j, j < k → named Ev.name s l[j]! = false) ∧ Below w.heap.size w wr) (fun _ i _ => l.length - (intOf i).toNat)
  case atStart => exact ⟨0, Nat.zero_le _, rfl, fun j hj => absurd hj (Nat.not_lt_zero _), Below.refl _ _⟩
  case round =>
    obtain ⟨k, hk, rfl, HR, hB⟩ := hrel
    have hBz := hB.size
    by_cases hlt : k < l.length
    · obtain ⟨b, off, rfl, hb, hc⟩ := hr.at_ (k := 6) (fun _ => rfl) (by omega) hlt
      have k0 := hc 0 _ rfl
      rw [Nat.add_zero] at k0
      have k1 := hc 1 _ rfl
      have k2 := hc 2 _ rfl
      have k3 := hc 3 _ rfl
      have k4 := hc 4 _ rfl
      have k5 := hc 5 _ rfl
      rw [← hB.cell (p := ⟨b, _, none⟩) hb] at k0 k1 k2 k3 k4 k5
      clear hc
      have C := Lib.hid (named_ev l[k]! s B wr ((hB.cell (p := ⟨B, 0, none⟩) hBl).trans HBB.out))
      cases hn : named Ev.name s l[k]! with
      | false =>
        have HR' := Lib.hid (all_step (p := named Ev.name s) HR.out hn)
        rw [hn] at C
        clear hn HR
        generalize l[k]! = x at *
        go_wp2_with (go_at_call 140; refine C.out.mono ?_; rintro e w' ⟨rfl, hb'⟩)
        go_roundw
        case rel => exact ⟨k + 1, hlt, by go_num, HR', hB.trans (hb'.mono hBz)⟩
        case measure => simp [intOf]; omega
      | true =>
        have HF := Lib.hid (idxB_hit (p := named Ev.name s) hlt hn HR.out)
        rw [hn] at C
        clear hn HR
        generalize l[k]! = x at *
        go_wp2_with (go_at_call 140; refine C.out.mono ?_; rintro e w' ⟨rfl, hb'⟩)
        go_ret
        exact ⟨ret_i64 HF.out.symm, hB.trans (hb'.mono hBz)⟩
    · obtain rfl : k = l.length := by omega
      have HF := Lib.hid (idxB_miss (p := named Ev.name s) HR.out)
      clear HR
      go_wp2_with fail
      go_ret
      exact ⟨ret_i64 HF.out.symm, hB⟩
set_option maxRecDepth 100000 in
set_option maxHeartbeats 1000000 in
theorem eventAt_any (w : World) (g : Gr) (s : ByteArray) (hI : InG w g) (hz : SzG g) :
    Calls Try.prog 128 #[.agg #[.slice g.ga g.gs.length g.gc, .slice g.ea g.es.length g.ec, .slice g.ra g.rs.length g.rc, .slice g.ua g.us.length g.uc], .string s] w fun e w' => e = .returned (.int .i64 (idxB (named Ev.name s) g.es)) ∧ Below w.heap.size w w' := by
  have hb0 : Below w.heap.size w ((w.alloc (.cells #[.slice g.ga g.gs.length g.gc, .slice g.ea g.es.length g.ec, .slice g.ra g.rs.length g.rc, .slice g.ua g.us.length g.uc] 27)).alloc (.cells #[.string s] 9)) := ((Below.refl _ _).alloc (Nat.le_refl _) _).alloc (by simp) _
  have C := Lib.hid (idxN_ev g.ea g.ec (w.heap.size + 1) g.es s _ (hI.es.below (Nat.le_refl _) hb0) hz.es (by have := cell_new1 (w.alloc (.cells #[.slice g.ga g.gs.length g.gc, .slice g.ea g.es.length g.ec, .slice g.ra g.rs.length g.rc, .slice g.ua g.us.length g.uc] 27)) (.string s) 9; rw [World.size_alloc] at this; exact this))
  clear hI hz
  go_enter Try.func128, Try.ntmps128
  go_wp2_with (go_at_call 139; refine C.out.mono ?_; rintro e w1 ⟨rfl, hb1⟩)
  go_ret
  exact ⟨rfl, hb0.trans (hb1.mono hb0.size)⟩


end Go.Proofs.Ytplplkchibefjaa
