/-
  Contracts of graph.mayBe, eventAt, groupAt and Find.
-/
import Derived.Test.YtandfjahfbeaiaaGreatGrV
namespace Go.Proofs.YtandfjahfbeaiaaGreat
open Go.RowKit Go.Shelf

theorem mayL_eq (g : Gr) : (((checkL g).2.2 : Int) == 0) = mayL g := by
  rw [Bool.eq_iff_iff, beq_iff_eq]; simp only [mayL, decide_eq_true_eq]; omega
set_option maxRecDepth 100000 in
set_option maxHeartbeats 1000000 in
theorem mayBe_any (w : World) (g : Gr) (hI : InG w g) (hz : SzG g) (hcap : ∀ u ∈ g.us, u.roles.length ≤ u.rc) :
    Calls Tryz.prog 18 #[.agg #[.slice g.ga g.gs.length g.gc, .slice g.ea g.es.length g.ec, .slice g.ra g.rs.length g.rc, .slice g.ua g.us.length g.uc]] w fun e w' => e = .returned (.bool (mayL g)) ∧ Below w.heap.size w w' := by
  have hb0 : Below w.heap.size w (w.alloc (.cells #[.slice g.ga g.gs.length g.gc, .slice g.ea g.es.length g.ec, .slice g.ra g.rs.length g.rc, .slice g.ua g.us.length g.uc] 27)) := (Below.refl _ _).alloc (Nat.le_refl _) _
  have C := Lib.hid (check_any _ g (hI.below (Nat.le_refl _) hb0) hz hcap)
  have HM := Lib.hid (mayL_eq g)
  clear hI hz hcap
  generalize checkL g = s at *
  go_enter Tryz.func18, Tryz.ntmps18
  go_wp2_with (go_at_call 15; refine C.out.mono ?_; rintro e w1 ⟨rfl, hb1⟩)
  go_ret
  exact ⟨ret_bool HM.out, (hb0.trans (hb1.mono hb0.size)).alloc (by have := hb1.size; have := hb0.size; omega) _⟩
def named {α : Type} (nm : α → ByteArray) (s : ByteArray) (x : α) : Bool := (nm x).toList == s.toList

set_option maxHeartbeats 400000 in
theorem named_ev (p : Ev) (s : ByteArray) (B : Nat) (w : World) (hB : w.cell? ⟨B, 0, none⟩ = some (.string s)) : Calls Tryz.prog 44 #[.agg #[.string p.name, .string p.group, .string p.role, .bool p.inn, .bool p.done, .int .i64 p.due], .pointer (some ⟨B, 0, none⟩)] w fun e w' => e = .returned (.bool (named Ev.name s p)) ∧ Below w.heap.size w w' := by
  have hBl := World.block_lt_of_cell? _ _ hB
  go_enter Tryz.func44, Tryz.ntmps44
  go_wp2_with fail
  go_ret
  exact ⟨rfl, (Below.refl _ _).alloc (Nat.le_refl _) _⟩
set_option maxRecDepth 100000 in
set_option maxHeartbeats 1000000 in
theorem idxN_ev (A : Option Addr) (c B : Nat) (l : List Ev) (s : ByteArray) (w : World) (hr : Row w A (l.flatMap evC)) (hl : l.length * 64 ≤ 140737488351232) (hB : w.cell? ⟨B, 0, none⟩ = some (.string s)) :
    Calls Tryz.prog 43 #[.slice A l.length c, .func (.func 44) #[] #[.pointer (some ⟨B, 0, none⟩)]] w fun e w' => e = .returned (.int .i64 (idxB (named Ev.name s) l)) ∧ Below w.heap.size w w' := by
  have hBl : B < w.heap.size := World.block_lt_of_cell? _ _ hB
  have HBB := Lib.hid hB
  clear hB
  go_enter Tryz.func43, Tryz.ntmps43
  go_wp2
  go_loopw [5, 8] (fun _ i wr => ∃ k : Nat, k ≤ l.length ∧ i = .int .i64 k ∧ Hid (∀ j, j < k → named Ev.name s l[j]! = false) ∧ Below w.heap.size w wr) (fun _ i _ => l.length - (intOf i).toNat)
  case atStart => exact ⟨0, Nat.zero_le _, rfl, fun j hj => absurd hj (Nat.not_lt_zero _), Below.refl _ _⟩
  case round =>
    obtain ⟨k, hk, rfl, HR, hB⟩ := hrel
    have hBz := hB.size
    by_cases hlt : k < l.length
    · obtain ⟨b, off, rfl, hb, hc⟩ := hr.at_ (k := 6) (fun _ => rfl) (by omega) hlt
      have k0 := hc 0 _ rfl
      rw [Nat.add_zero] at k0
      have k1 := hc 1 _ rfl
      have k2 := hc 2 _ rfl
      have k3 := hc 3 _ rfl
      have k4 := hc 4 _ rfl
      have k5 := hc 5 _ rfl
      rw [← hB.cell (p := ⟨b, _, none⟩) hb] at k0 k1 k2 k3 k4 k5
      clear hc
      have C := Lib.hid (named_ev l[k]! s B wr ((hB.cell (p := ⟨B, 0, none⟩) hBl).trans HBB.out))
      cases hn : named Ev.name s l[k]! with
      | false =>
        have HR' := Lib.hid (all_step (p := named Ev.name s) HR.out hn)
        rw [hn] at C
        clear hn HR
        generalize l[k]! = x at *
        go_wp2_with (go_at_call 44; refine C.out.mono ?_; rintro e w' ⟨rfl, hb'⟩)
        go_roundw
        case rel => exact ⟨k + 1, hlt, by go_num, HR', hB.trans (hb'.mono hBz)⟩
        case measure => simp [intOf]; omega
      | true =>
        have HF := Lib.hid (idxB_hit (p := named Ev.name s) hlt hn HR.out)
        rw [hn] at C
        clear hn HR
        generalize l[k]! = x at *
        go_wp2_with (go_at_call 44; refine C.out.mono ?_; rintro e w' ⟨rfl, hb'⟩)
        go_ret
        exact ⟨ret_i64 HF.out.symm, hB.trans (hb'.mono hBz)⟩
    · obtain rfl : k = l.length := by omega
      have HF := Lib.hid (idxB_miss (p := named Ev.name s) HR.out)
      clear HR
      go_wp2_with fail
      go_ret
      exact ⟨ret_i64 HF.out.symm, hB⟩
set_option maxRecDepth 100000 in
set_option maxHeartbeats 1000000 in
theorem eventAt_any (w : World) (g : Gr) (s : ByteArray) (hI : InG w g) (hz : SzG g) :
    Calls Tryz.prog 19 #[.agg #[.slice g.ga g.gs.length g.gc, .slice g.ea g.es.length g.ec, .slice g.ra g.rs.length g.rc, .slice g.ua g.us.length g.uc], .string s] w fun e w' => e = .returned (.int .i64 (idxB (named Ev.name s) g.es)) ∧ Below w.heap.size w w' := by
  have hb0 : Below w.heap.size w ((w.alloc (.cells #[.slice g.ga g.gs.length g.gc, .slice g.ea g.es.length g.ec, .slice g.ra g.rs.length g.rc, .slice g.ua g.us.length g.uc] 27)).alloc (.cells #[.string s] 9)) := ((Below.refl _ _).alloc (Nat.le_refl _) _).alloc (by simp) _
  have C := Lib.hid (idxN_ev g.ea g.ec (w.heap.size + 1) g.es s _ (hI.es.below (Nat.le_refl _) hb0) hz.es (by have := cell_new1 (w.alloc (.cells #[.slice g.ga g.gs.length g.gc, .slice g.ea g.es.length g.ec, .slice g.ra g.rs.length g.rc, .slice g.ua g.us.length g.uc] 27)) (.string s) 9; rw [World.size_alloc] at this; exact this))
  clear hI hz
  go_enter Tryz.func19, Tryz.ntmps19
  go_wp2_with (go_at_call 43; refine C.out.mono ?_; rintro e w1 ⟨rfl, hb1⟩)
  go_ret
  exact ⟨rfl, hb0.trans (hb1.mono hb0.size)⟩

set_option maxHeartbeats 400000 in
theorem named_gp (p : Gp) (s : ByteArray) (B : Nat) (w : World) (hB : w.cell? ⟨B, 0, none⟩ = some (.string s)) : Calls Tryz.prog 47 #[.agg #[.string p.name, .string p.parent], .pointer (some ⟨B, 0, none⟩)] w fun e w' => e = .returned (.bool (named Gp.name s p)) ∧ Below w.heap.size w w' := by
  have hBl := World.block_lt_of_cell? _ _ hB
  go_enter Tryz.func47, Tryz.ntmps47
  go_wp2_with fail
  go_ret
  exact ⟨rfl, (Below.refl _ _).alloc (Nat.le_refl _) _⟩
set_option maxRecDepth 100000 in
set_option maxHeartbeats 1000000 in
theorem idxN_gp (A : Option Addr) (c B : Nat) (l : List Gp) (s : ByteArray) (w : World) (hr : Row w A (l.flatMap gpC)) (hl : l.length * 32 ≤ 140737488351232) (hB : w.cell? ⟨B, 0, none⟩ = some (.string s)) :
    Calls Tryz.prog 46 #[.slice A l.length c, .func (.func 47) #[] #[.pointer (some ⟨B, 0, none⟩)]] w fun e w' => e = .returned (.int .i64 (idxB (named Gp.name s) l)) ∧ Below w.heap.size w w' := by
  have hBl : B < w.heap.size := World.block_lt_of_cell? _ _ hB
  have HBB := Lib.hid hB
  clear hB
  go_enter Tryz.func46, Tryz.ntmps46
  go_wp2
  go_loopw [5, 8] (fun _ i wr => ∃ k : Nat, k ≤ l.length ∧ i = .int .i64 k ∧ Hid (∀ j, j < k → named Gp.name s l[j]! = false) ∧ Below w.heap.size w wr) (fun _ i _ => l.length - (intOf i).toNat)
  case atStart => exact ⟨0, Nat.zero_le _, rfl, fun j hj => absurd hj (Nat.not_lt_zero _), Below.refl _ _⟩
  case round =>
    obtain ⟨k, hk, rfl, HR, hB⟩ := hrel
    have hBz := hB.size
    by_cases hlt : k < l.length
    · obtain ⟨b, off, rfl, hb, hc⟩ := hr.at_ (k := 2) (fun _ => rfl) (by omega) hlt
      have k0 := hc 0 _ rfl
      rw [Nat.add_zero] at k0
      have k1 := hc 1 _ rfl
      rw [← hB.cell (p := ⟨b, _, none⟩) hb] at k0 k1
      clear hc
      have C := Lib.hid (named_gp l[k]! s B wr ((hB.cell (p := ⟨B, 0, none⟩) hBl).trans HBB.out))
      cases hn : named Gp.name s l[k]! with
      | false =>
        have HR' := Lib.hid (all_step (p := named Gp.name s) HR.out hn)
        rw [hn] at C
        clear hn HR
        generalize l[k]! = x at *
        go_wp2_with (go_at_call 47; refine C.out.mono ?_; rintro e w' ⟨rfl, hb'⟩)
        go_roundw
        case rel => exact ⟨k + 1, hlt, by go_num, HR', hB.trans (hb'.mono hBz)⟩
        case measure => simp [intOf]; omega
      | true =>
        have HF := Lib.hid (idxB_hit (p := named Gp.name s) hlt hn HR.out)
        rw [hn] at C
        clear hn HR
        generalize l[k]! = x at *
        go_wp2_with (go_at_call 47; refine C.out.mono ?_; rintro e w' ⟨rfl, hb'⟩)
        go_ret
        exact ⟨ret_i64 HF.out.symm, hB.trans (hb'.mono hBz)⟩
    · obtain rfl : k = l.length := by omega
      have HF := Lib.hid (idxB_miss (p := named Gp.name s) HR.out)
      clear HR
      go_wp2_with fail
      go_ret
      exact ⟨ret_i64 HF.out.symm, hB⟩
set_option maxRecDepth 100000 in
set_option maxHeartbeats 1000000 in
theorem groupAt_any (w : World) (g : Gr) (s : ByteArray) (hI : InG w g) (hz : SzG g) :
    Calls Tryz.prog 22 #[.agg #[.slice g.ga g.gs.length g.gc, .slice g.ea g.es.length g.ec, .slice g.ra g.rs.length g.rc, .slice g.ua g.us.length g.uc], .string s] w fun e w' => e = .returned (.int .i64 (idxB (named Gp.name s) g.gs)) ∧ Below w.heap.size w w' := by
  have hb0 : Below w.heap.size w ((w.alloc (.cells #[.slice g.ga g.gs.length g.gc, .slice g.ea g.es.length g.ec, .slice g.ra g.rs.length g.rc, .slice g.ua g.us.length g.uc] 27)).alloc (.cells #[.string s] 9)) := ((Below.refl _ _).alloc (Nat.le_refl _) _).alloc (by simp) _
  have C := Lib.hid (idxN_gp g.ga g.gc (w.heap.size + 1) g.gs s _ (hI.gs.below (Nat.le_refl _) hb0) hz.gs (by have := cell_new1 (w.alloc (.cells #[.slice g.ga g.gs.length g.gc, .slice g.ea g.es.length g.ec, .slice g.ra g.rs.length g.rc, .slice g.ua g.us.length g.uc] 27)) (.string s) 9; rw [World.size_alloc] at this; exact this))
  clear hI hz
  go_enter Tryz.func22, Tryz.ntmps22
  go_wp2_with (go_at_call 46; refine C.out.mono ?_; rintro e w1 ⟨rfl, hb1⟩)
  go_ret
  exact ⟨rfl, hb0.trans (hb1.mono hb0.size)⟩

set_option maxRecDepth 100000 in
set_option maxHeartbeats 1000000 in
theorem find_any (w : World) (g : Gr) (s : ByteArray) (hI : InG w g) (hz : SzG g) (hcap : ∀ u ∈ g.us, u.roles.length ≤ u.rc) :
    Calls Tryz.prog 8 #[.agg #[.slice g.ga g.gs.length g.gc, .slice g.ea g.es.length g.ec, .slice g.ra g.rs.length g.rc, .slice g.ua g.us.length g.uc], .string s] w fun e w' => e = .returned (.int .i64 (if mayL g then idxB (named Ev.name s) g.es else -1)) ∧ Below w.heap.size w w' := by
  have hb0 : Below w.heap.size w (w.alloc (.cells #[.slice g.ga g.gs.length g.gc, .slice g.ea g.es.length g.ec, .slice g.ra g.rs.length g.rc, .slice g.ua g.us.length g.uc] 27)) := (Below.refl _ _).alloc (Nat.le_refl _) _
  have C := Lib.hid (mayBe_any _ g (hI.below (Nat.le_refl _) hb0) hz hcap)
  have HI := Lib.hid hI
  have HZ := Lib.hid hz
  clear hI hz hcap
  cases hm : mayL g with
  | false =>
    rw [hm] at C
    clear hm
    go_enter Tryz.func8, Tryz.ntmps8
    go_wp2_with (go_at_call 18; refine C.out.mono ?_; rintro e w1 ⟨rfl, hb1⟩)
    go_ret
    exact ⟨rfl, hb0.trans (hb1.mono hb0.size)⟩
  | true =>
    rw [hm] at C
    clear hm
    go_enter Tryz.func8, Tryz.ntmps8
    go_wp2_with fail
    refine C.out.mono ?_
    rintro e w1 ⟨rfl, hb1⟩
    have hbw := hb0.trans (hb1.mono hb0.size)
    have hc : ∀ i : Nat, w1.cell? ⟨w.heap.size, i, none⟩ = (w.alloc (.cells #[.slice g.ga g.gs.length g.gc, .slice g.ea g.es.length g.ec, .slice g.ra g.rs.length g.rc, .slice g.ua g.us.length g.uc] 27)).cell? ⟨w.heap.size, i, none⟩ := fun i => hb1.cell (p := ⟨w.heap.size, i, none⟩) (by simp)
    have c0 : w1.cell? ⟨w.heap.size, 0, none⟩ = some (.slice g.ga g.gs.length g.gc) := (hc 0).trans (by simp)
    have c1 : w1.cell? ⟨w.heap.size, 1, none⟩ = some (.slice g.ea g.es.length g.ec) := (hc 1).trans (by simp)
    have c2 : w1.cell? ⟨w.heap.size, 2, none⟩ = some (.slice g.ra g.rs.length g.rc) := (hc 2).trans (by simp)
    have c3 : w1.cell? ⟨w.heap.size, 3, none⟩ = some (.slice g.ua g.us.length g.uc) := (hc 3).trans (by simp)
    have C2 := Lib.hid (eventAt_any w1 g s (HI.out.below (Nat.le_refl _) hbw) HZ.out)
    clear hc hb1
    go_wp2_with (go_at_call 19; refine C2.out.mono ?_; rintro e w2 ⟨rfl, hb2⟩)
    go_ret
    exact ⟨rfl, hbw.trans (hb2.mono hbw.size)⟩
end Go.Proofs.YtandfjahfbeaiaaGreat
