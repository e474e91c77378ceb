/-
  Contract of graph.Above, of every graph.
-/
import Derived.Test.YtandfjahfbeaiaaGreatGrCl
import Derived.StillTailTactics
namespace Go.Proofs.YtandfjahfbeaiaaGreat
open Go.RowKit Go.Shelf

theorem nameK_nil : nameK [] = false := by decide
theorem idxB_cases {α : Type} [Inhabited α] (p : α → Bool) (l : List α) : (idxB p l = -1 ∧ ∀ j, j < l.length → p l[j]! = false) ∨ ∃ k, k < l.length ∧ idxB p l = (k : Int) ∧ p l[k]! = true ∧ ∀ j, j < k → p l[j]! = false := by
  unfold idxB
  cases h : l.findIdx? p with
  | none =>
    left
    rw [List.findIdx?_eq_none_iff] at h
    exact ⟨rfl, fun j hj => h _ (mem_at hj)⟩
  | some i =>
    right
    obtain ⟨hi, hp, hn⟩ := List.findIdx?_eq_some_iff_getElem.1 h
    refine ⟨i, hi, rfl, by rw [getElem!_pos l i hi]; exact hp, fun j hj => ?_⟩
    have := hn j hj
    rw [getElem!_pos l j (by omega)]; simpa using this
theorem may_group {g : Gr} (h : mayL g = true) {i : Nat} (hi : i < g.gs.length) :
    nameK g.gs[i]!.name.toList = true ∧ aheadB (gns g) g.gs[i]!.name.toList i = false ∧ ((g.gs[i]!.parent.toList == []) = true ∨ (hasB (gns g) g.gs[i]!.parent.toList && aheadB (gns g) g.gs[i]!.parent.toList i) = true) := by
  have h1 := (may_iff.1 h).2.1 i hi
  unfold groupE at h1
  by_cases a : nameK g.gs[i]!.name.toList = true
  · rw [if_pos a] at h1
    by_cases b : aheadB (gns g) g.gs[i]!.name.toList i = true
    · rw [if_pos b] at h1; cases h1
    · rw [if_neg b] at h1
      refine ⟨a, by simpa using b, ?_⟩
      by_cases c : (g.gs[i]!.parent.toList == []) = true
      · exact .inl c
      · rw [if_neg c] at h1
        right
        by_cases d : (hasB (gns g) g.gs[i]!.parent.toList && aheadB (gns g) g.gs[i]!.parent.toList i) = true
        · exact d
        · rw [if_neg d] at h1; cases h1
  · rw [if_neg a] at h1; cases h1
theorem gns_at (g : Gr) {i : Nat} (hi : i < g.gs.length) : (gns g)[i]? = some g.gs[i]!.name.toList := by
  rw [gns, List.getElem?_map, List.getElem?_eq_getElem hi, getElem!_pos g.gs i hi]; rfl
theorem up_lt {g : Gr} (h : mayL g = true) {i : Nat} (hi : i < g.gs.length) : idxB (named Gp.name g.gs[i]!.parent) g.gs < i := by
  rcases idxB_cases (named Gp.name g.gs[i]!.parent) g.gs with ⟨h1, _⟩ | ⟨k, hk, h1, h2, h3⟩
  · omega
  · rw [h1]
    obtain ⟨_, _, h4⟩ := may_group h hi
    have h2' : g.gs[k]!.name.toList = g.gs[i]!.parent.toList := by simpa [named] using h2
    rcases h4 with h4 | h4
    · have h5 : g.gs[i]!.parent.toList = [] := by simpa using h4
      have hk' := (may_group h hk).1
      rw [h2', h5, nameK_nil] at hk'; cases hk'
    · simp only [Bool.and_eq_true, aheadB, decide_eq_true_eq] at h4
      obtain ⟨_, h5⟩ := h4
      have hlen : (gns g).length = g.gs.length := by simp [gns]
      have hj : (gns g).idxOf g.gs[i]!.parent.toList < (gns g).length := by omega
      have h6 := List.getElem_idxOf hj
      rcases Nat.lt_or_ge ((gns g).idxOf g.gs[i]!.parent.toList) k with h7 | h7
      · exfalso
        have h8 := h3 _ h7
        have h9 := gns_at g (i := (gns g).idxOf g.gs[i]!.parent.toList) (by omega)
        rw [List.getElem?_eq_getElem hj, h6] at h9
        have h10 := Option.some.inj h9
        simp only [named, beq_eq_false_iff_ne] at h8
        exact h8 h10.symm
      · omega

/-- A group's name, its parent's, and so on, from a place on. -/
def upL (g : Gr) : Nat → Int → List ByteArray
  | 0, _ => []
  | n + 1, z => if 0 ≤ z then g.gs[z.toNat]!.name :: upL g n (idxB (named Gp.name g.gs[z.toNat]!.parent) g.gs) else []
def aboveL (g : Gr) (s : ByteArray) : List ByteArray := if mayL g then upL g g.gs.length (idxB (named Gp.name s) g.gs) else []
def StrsOf (l : List ByteArray) (w : World) (e : Ending) (w' : World) : Prop := ∃ v, e = .returned v ∧ w'.ownsRow w.heap.size 9 1 v l.length (l.map Value.string) ∧ Below w.heap.size w w'
theorem up_yes (g : Gr) (n k : Nat) : upL g (n + 1) (k : Int) = g.gs[k]!.name :: upL g n (idxB (named Gp.name g.gs[k]!.parent) g.gs) := by
  rw [upL, if_pos (Int.natCast_nonneg _), Int.toNat_natCast]
theorem up_no (g : Gr) (n : Nat) {z : Int} (h : z < 0) : upL g n z = [] := by
  cases n with
  | zero => rfl
  | succ n => rw [upL, if_neg (by omega)]
def UpRel (g : Gr) (L : List ByteArray) (W0 : World) (v z : Value) (wr : World) : Prop :=
  ∃ (acc : List ByteArray) (n : Nat) (i : Int), -1 ≤ i ∧ i < n ∧ acc.length + n = g.gs.length ∧ z = .int .i64 i ∧ Hid (wr.ownsRow W0.heap.size 9 1 v acc.length (acc.map Value.string)) ∧ Hid (acc ++ upL g n i = L) ∧ Below W0.heap.size W0 wr

theorem idxB_bounds {α : Type} [Inhabited α] (p : α → Bool) (l : List α) : -1 ≤ idxB p l ∧ idxB p l < l.length := by
  rcases idxB_cases p l with ⟨h, _⟩ | ⟨k, hk, h, _⟩ <;> omega

set_option maxRecDepth 100000 in
set_option maxHeartbeats 4000000 in
theorem above_any (w : World) (g : Gr) (s : ByteArray) (hI : InG w g) (hz : SzG g) (hcap : ∀ u ∈ g.us, u.roles.length ≤ u.rc) :
    Calls Tryz.prog 11 #[.agg #[.slice g.ga g.gs.length g.gc, .slice g.ea g.es.length g.ec, .slice g.ra g.rs.length g.rc, .slice g.ua g.us.length g.uc], .string s] w (StrsOf (aboveL g s) w) := by
  have C1 := Lib.hid (mayBe_any (boxW w g) g (hI.below (Nat.le_refl _) (box_below w g)) hz hcap)
  have hb0 := box_below w g
  have hs0 := box_size w g
  have z2 := hz.gs
  have HI := Lib.hid hI
  have HZ := Lib.hid hz
  have HL : Hid (aboveL g s = if mayL g then upL g g.gs.length (idxB (named Gp.name s) g.gs) else []) := Lib.hid rfl
  have HS0 := Lib.hid hs0
  clear hI hz hcap hs0
  cases hm : mayL g with
  | false =>
    rw [hm] at C1 HL
    rw [if_neg (by decide)] at HL
    clear hm
    go_enter Tryz.func11, Tryz.ntmps11
    go_wp2_with fail
    refine C1.out.mono ?_
    rintro e w1 ⟨rfl, hb1⟩
    go_wp2_with fail
    go_ret
    exact ⟨_, rfl, by rw [HL.out]; exact World.ownsRow_nil _ _ _ _, hb0.trans (hb1.mono hb0.size)⟩
  | true =>
    rw [hm, if_pos rfl] at HL
    rw [hm] at C1
    have HM := Lib.hid hm
    clear hm
    go_enter Tryz.func11, Tryz.ntmps11
    go_wp2_with fail
    refine C1.out.mono ?_
    rintro e w1 ⟨rfl, hb1⟩
    have B1 := Lib.hid (hb0.trans (hb1.mono hb0.size))
    have X1 := Lib.hid (hb1.mono (by rw [HS0.out]; exact Nat.le_refl _) : Below (w.heap.size + 1) (boxW w g) w1)
    obtain ⟨a0, a1, a2, a3⟩ := box_cells X1.out
    have y1 : w.heap.size + 1 ≤ w1.heap.size := by have := X1.out.size; rw [HS0.out] at this; exact this
    clear hb1 C1
    go_wp2_with fail
    refine (groupAt_any w1 g s (HI.out.below (Nat.le_refl _) B1.out) HZ.out).mono ?_
    rintro e w2 ⟨rfl, hb2⟩
    have B2 := Lib.hid (B1.out.trans (hb2.mono (by omega)))
    have X2 := Lib.hid (X1.out.trans (hb2.mono y1))
    have y2 := hb2.size
    clear a0 a1 a2 a3 hb2
    obtain ⟨hq0, hq1⟩ := idxB_bounds (named Gp.name s) g.gs
    generalize idxB (named Gp.name s) g.gs = z at *
    obtain ⟨i0, hi, hz0, hz1, hz2⟩ := info_parts info_st
    have HI0 := Lib.hid hi
    have HZ0 := Lib.hid hz0
    have HZ1 := Lib.hid hz1
    have HZ2 := Lib.hid hz2
    clear hi hz0 hz1 hz2
    go_wp2_with fail
    go_loopw [5, 6] (fun v z wr => UpRel g (aboveL g s) w2 v z wr) (fun _ z _ => (intOf z + 1).toNat)
    case atStart => exact ⟨[], g.gs.length, _, hq0, hq1, by simp, rfl, Lib.hid (World.ownsRow_nil _ _ _ _), Lib.hid (by rw [HL.out]; rfl), Below.refl _ _⟩
    case round =>
      obtain ⟨acc, n, i, hi0, hin, hlen, rfl, HV, HE, hB⟩ := hrel
      have hBz := hB.size
      by_cases h0 : 0 ≤ i
      · obtain ⟨k, rfl⟩ : ∃ k : Nat, i = (k : Int) := ⟨i.toNat, by omega⟩
        obtain ⟨n, rfl⟩ : ∃ m, n = m + 1 := ⟨n - 1, by omega⟩
        have hlt : k < g.gs.length := by omega
        obtain ⟨b, off, hA, hb, hc⟩ := HI.out.gs.at_ (k := 2) (fun _ => rfl) (by omega) hlt
        have k0 := hc 0 _ rfl
        rw [Nat.add_zero] at k0
        have k1 := hc 1 _ rfl
        have BR : Hid (Below w.heap.size w wr) := Lib.hid (B2.out.trans (hB.mono (by have := B2.out.size; omega)))
        have XR : Hid (Below (w.heap.size + 1) (boxW w g) wr) := Lib.hid (X2.out.trans (hB.mono (by omega)))
        rw [← BR.out.cell (p := ⟨b, _, none⟩) hb] at k0 k1
        have hbk : b < wr.heap.size := by have := BR.out.size; omega
        obtain ⟨a0, a1, a2, a3⟩ := box_cells XR.out
        rw [hA] at a0
        have HA := Lib.hid hA
        obtain ⟨va, vc, rfl⟩ := own_slice HV.out
        have HU : Hid (acc ++ [g.gs[k]!.name] ++ upL g n (idxB (named Gp.name g.gs[k]!.parent) g.gs) = aboveL g s) := Lib.hid (by rw [← HE.out, up_yes, List.append_assoc]; rfl)
        have hul := up_lt HM.out hlt
        have hus := (HZ.out.gp _ (mem_at hlt)).1
        obtain ⟨hq3, _⟩ := idxB_bounds (named Gp.name g.gs[k]!.parent) g.gs
        clear hc h0 hA HE
        generalize g.gs[k]! = p at *
        have hk0 : (0 : Int) ≤ (k : Int) := Int.natCast_nonneg _
        have hk1 : (k : Int) < (g.gs.length : Int) := by omega
        go_wp2_with (at_builtin; refine wpList_append_own _ rfl (.tmp 23) (.tmp 30) 34 rfl w2.heap.size 9 i0 _ 1 16 Tryz.underlying34 HI0.out HZ0.out HZ1.out HZ2.out rfl (by omega) _ _ _ rfl (HV.out.alloc _) ⟨wr.heap.size, 0, none⟩ 1 1 [.string p.name] rfl rfl ?c1 ?c2 ?c3 ?c4 ?c5 ?_)
        case c1 =>
          intro j u hj
          match j, hj with
          | 0, hj => simp at hj; subst hj; simp [Addr.add]
        case c2 => intro u hu; simp at hu; subst hu; rfl
        case c3 => unfold maxLen; omega
        case c4 => omega
        case c5 => simp; omega
        intro v' w4 hown' hgrow _
        have hW1 : Below wr.heap.size wr (wr.alloc (.cells #[.string p.name] 9)) := (Below.refl _ _).alloc (Nat.le_refl _) _
        have HB4 : Hid (Below w2.heap.size w2 w4) := Lib.hid ((hB.alloc hBz _).grown hgrow (by rw [World.size_alloc]; omega) (fun j hj => (HV.out.lt j hj).1))
        have HV4 : Hid (w4.ownsRow w2.heap.size 9 1 v' (acc ++ [p.name]).length ((acc ++ [p.name]).map Value.string)) := Lib.hid (by
          rw [List.map_append, List.length_append]; exact hown')
        have BR4 : Hid (Below w.heap.size w w4) := Lib.hid (B2.out.trans (HB4.out.mono (by have := B2.out.size; omega)))
        have XR4 : Hid (Below (w.heap.size + 1) (boxW w g) w4) := Lib.hid (X2.out.trans (HB4.out.mono (by omega)))
        clear hown' hgrow hW1 a0 a1 a2 a3
        obtain ⟨a0, a1, a2, a3⟩ := box_cells XR4.out
        rw [HA.out] at a0
        rw [BR.out.cell (p := ⟨b, _, none⟩) hb, ← BR4.out.cell (p := ⟨b, _, none⟩) hb] at k1
        clear k0
        go_wp2_with fail
        go_still_tail 7, (by kernel_rfl)
        have hdr : Below w.heap.size w w4.drew := below_draws BR4.out 1
        have C := Lib.hid (groupAt_any w4.drew g p.parent (HI.out.below (Nat.le_refl _) hdr) HZ.out)
        rw [HA.out] at C
        have HDR := Lib.hid hdr
        have y4 : w2.heap.size ≤ w4.heap.size := HB4.out.size
        clear hdr
        go_wp2_with fail
        refine C.out.mono ?_
        rintro e w5 ⟨rfl, hb5⟩
        have HB5 : Hid (Below w2.heap.size w2 w5) := Lib.hid ((below_draws HB4.out 1).trans (hb5.mono y4))
        have HV5 : Hid (w5.ownsRow w2.heap.size 9 1 v' (acc ++ [p.name]).length ((acc ++ [p.name]).map Value.string)) := Lib.hid (own_below (HV4.out.drew) hb5)
        clear hb5 C
        go_wp2_with fail
        go_roundw
        case rel => exact ⟨acc ++ [p.name], n, _, hq3, by omega, by simp; omega, rfl, HV5, HU, HB5.out⟩
        case measure => simp [intOf]; omega
      · go_wp2_with fail
        go_ret
        exact ⟨_, rfl, by rw [← HE.out, up_no _ _ (by omega), List.append_nil]; exact own_base HV.out (by have := B2.out.size; omega), B2.out.trans (hB.mono (by have := B2.out.size; omega))⟩
end Go.Proofs.YtandfjahfbeaiaaGreat
