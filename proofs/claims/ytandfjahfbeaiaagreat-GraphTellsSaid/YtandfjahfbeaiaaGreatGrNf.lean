/-
  Contracts of the document's own Find and Above. Contract of the document's own Members.
-/
import Derived.Test.YtandfjahfbeaiaaGreatGrNc
import Derived.Test.YtandfjahfbeaiaaGreatGrQp
namespace Go.Proofs.YtandfjahfbeaiaaGreat
open Go.RowKit Go.Shelf

set_option maxRecDepth 100000 in
set_option maxHeartbeats 4000000 in
theorem rfind_any (w : World) (g : Gr) (s : ByteArray) (hI : InG w g) (hz : SzG g) :
    Calls Tryz.prog 9 #[.agg #[.slice g.ga g.gs.length g.gc, .slice g.ea g.es.length g.ec, .slice g.ra g.rs.length g.rc, .slice g.ua g.us.length g.uc], .string s] w fun e w' => e = .returned (.int .i64 (if mayL g then idxB (named Ev.name s) g.es else -1)) ∧ Below w.heap.size w w' := by
  have HI := Lib.hid hI
  have HZ := Lib.hid hz
  have z2 := hz.es
  have X0 := Lib.hid (gx_start w g)
  have CR := fun W (hW : InG W g) => Lib.hid (rright_any W g hW HZ.out)
  clear hI hz
  cases hm : mayL g with
  | false =>
    rw [hm] at CR
    clear hm
    go_enter Tryz.func9, Tryz.ntmps9
    go_wp2_with fail
    go_loopw [5] (fun i wr => i = .int .i64 ((0 : Nat) : Int) ∧ Hid (GX w g wr)) (fun _ _ => 0)
    case atStart => exact ⟨rfl, X0⟩
    case round =>
      clear X0
      obtain ⟨rfl, HX⟩ := hrel
      obtain ⟨a0, a1, a2, a3⟩ := box_cells HX.out
      by_cases hlt : 0 < g.es.length
      · have hk1 : ((0 : Nat) : Int) < (g.es.length : Int) := by omega
        have C := CR wr (HI.out.below (Nat.le_refl _) (gx_old HX.out))
        go_wp2_with fail
        refine C.out.mono ?_
        rintro e w1 ⟨rfl, hb1⟩
        have HX1 := Lib.hid (gx_more HX.out hb1)
        go_wp2_with fail
        go_ret
        exact ⟨rfl, gx_old HX1.out⟩
      · have h0 : g.es.length = 0 := by omega
        rw [h0] at a1
        go_wp2_with fail
        go_ret
        exact ⟨rfl, gx_old HX.out⟩
  | true =>
    rw [hm] at CR
    clear hm
    go_enter Tryz.func9, Tryz.ntmps9
    go_wp2_with fail
    go_loopw [5] (fun i wr => ∃ k : Nat, k ≤ g.es.length ∧ i = .int .i64 k ∧ Hid (∀ j, j < k → named Ev.name s g.es[j]! = false) ∧ Hid (GX w g wr)) (fun i _ => g.es.length - (intOf i).toNat)
    case atStart => exact ⟨0, Nat.zero_le _, rfl, Lib.hid (fun j hj => absurd hj (Nat.not_lt_zero _)), X0⟩
    case round =>
      clear X0
      obtain ⟨k, hk, rfl, HR, HX⟩ := hrel
      obtain ⟨a0, a1, a2, a3⟩ := box_cells HX.out
      by_cases hlt : k < g.es.length
      · obtain ⟨b, off, hA, hb, hc⟩ := HI.out.es.at_ (k := 6) (fun _ => rfl) (by omega) hlt
        have k0 := hc 0 _ rfl
        rw [Nat.add_zero] at k0
        have hk0 : (0 : Int) ≤ (k : Int) := Int.natCast_nonneg _
        have hk1 : (k : Int) < (g.es.length : Int) := by omega
        have C := CR wr (HI.out.below (Nat.le_refl _) (gx_old HX.out))
        rw [hA] at a1 C
        have HA := Lib.hid hA
        clear hc hA
        cases hq : (g.es[k]!.name.toList == s.toList) with
        | true =>
          have HF := Lib.hid (idxB_hit (p := named Ev.name s) hlt hq HR.out)
          clear HR
          generalize g.es[k]! = p at *
          go_wp2_with fail
          refine C.out.mono ?_
          rintro e w1 ⟨rfl, hb1⟩
          have HX1 := Lib.hid (gx_more HX.out hb1)
          rw [← (gx_old HX1.out).cell (p := ⟨b, _, none⟩) hb] at k0
          clear a0 a1 a2 a3
          obtain ⟨a0, a1, a2, a3⟩ := box_cells HX1.out
          rw [HA.out] at a1
          go_wp2_with fail
          go_ret
          exact ⟨ret_i64 HF.out.symm, gx_old HX1.out⟩
        | false =>
          have HR' := Lib.hid (all_step (p := named Ev.name s) HR.out hq)
          clear HR
          generalize g.es[k]! = p at *
          go_wp2_with fail
          refine C.out.mono ?_
          rintro e w1 ⟨rfl, hb1⟩
          have HX1 := Lib.hid (gx_more HX.out hb1)
          rw [← (gx_old HX1.out).cell (p := ⟨b, _, none⟩) hb] at k0
          clear a0 a1 a2 a3
          obtain ⟨a0, a1, a2, a3⟩ := box_cells HX1.out
          rw [HA.out] at a1
          go_wp2_with fail
          go_roundw
          case rel => exact ⟨k + 1, hlt, by go_num, HR', HX1⟩
          case measure => simp [intOf]; omega
      · obtain rfl : k = g.es.length := by omega
        have HF := Lib.hid (idxB_miss (p := named Ev.name s) HR.out)
        clear HR
        go_wp2_with fail
        go_ret
        exact ⟨ret_i64 HF.out.symm, gx_old HX.out⟩

theorem own_emp (w : World) (T : TypeId) (z : Nat) {B : Nat} (hB : B ≤ w.heap.size) : (w.alloc (.cells #[] T)).ownsRow B T z (.slice (some ⟨w.heap.size, 0, none⟩) 0 0) 0 [] :=
  ⟨by simp, .inr ⟨w.heap.size, 0, #[], rfl, hB, heap_new _ _, by simp, by unfold maxLen; omega, by simp, by simp⟩⟩
theorem gx_alloc {w W : World} {g : Gr} (h : GX w g W) (o : Obj) : GX w g (W.alloc o) := h.alloc (by have := h.size; rw [box_size] at this; exact this) o
theorem gx_size {w W : World} {g : Gr} (h : GX w g W) : w.heap.size + 1 ≤ W.heap.size := by have := h.size; rw [box_size] at this; exact this

set_option maxRecDepth 100000 in
set_option maxHeartbeats 4000000 in
theorem rabove_any (w : World) (g : Gr) (s : ByteArray) (hI : InG w g) (hz : SzG g) :
    Calls Tryz.prog 12 #[.agg #[.slice g.ga g.gs.length g.gc, .slice g.ea g.es.length g.ec, .slice g.ra g.rs.length g.rc, .slice g.ua g.us.length g.uc], .string s] w (StrsOf (aboveL g s) w) := by
  have HI := Lib.hid hI
  have z1 := hz.gs
  have hs0 := box_size w g
  have C := Lib.hid (rright_any ((boxW w g).alloc (.cells #[] 9)) g (hI.below (Nat.le_refl _) ((box_below w g).alloc (by omega) _)) hz)
  have X0 := Lib.hid (gx_alloc (gx_start w g) (.cells #[] 9))
  have V0 : Hid (((boxW w g).alloc (.cells #[] 9)).ownsRow (w.heap.size + 1) 9 1 (.slice (some ⟨w.heap.size + 1, 0, none⟩) 0 0) 0 []) := Lib.hid (by
    have h := own_emp (boxW w g) 9 1 (B := w.heap.size + 1) (by omega)
    rw [hs0] at h; exact h)
  have HS0 := Lib.hid hs0
  clear hI hz hs0
  cases hm : mayL g with
  | false =>
    have HL : Hid (aboveL g s = []) := Lib.hid (by rw [aboveL, hm]; rfl)
    rw [hm] at C
    clear hm
    go_enter Tryz.func12, Tryz.ntmps12
    go_wp2_with fail
    refine C.out.mono ?_
    rintro e w1 ⟨rfl, hb1⟩
    have HX1 := Lib.hid (gx_more X0.out hb1)
    have HV1 := Lib.hid (own_base (own_below V0.out hb1) (Nat.le_succ _))
    go_wp2_with fail
    go_ret
    exact ⟨_, rfl, by rw [HL.out]; exact HV1.out, gx_old HX1.out⟩
  | true =>
    have HL : Hid (aboveL g s = downL g g.gs.length s) := Lib.hid (down_above hm s).symm
    rw [hm] at C
    clear hm
    obtain ⟨i0, hi, hz0, hz1, hz2⟩ := info_parts info_st
    have HI0 := Lib.hid hi
    have HZ0 := Lib.hid hz0
    have HZ1 := Lib.hid hz1
    have HZ2 := Lib.hid hz2
    clear hi hz0 hz1 hz2
    go_enter Tryz.func12, Tryz.ntmps12
    go_wp2_with fail
    refine C.out.mono ?_
    rintro e w1 ⟨rfl, hb1⟩
    have X1 := Lib.hid (gx_more X0.out hb1)
    have V1 := Lib.hid (own_below V0.out hb1)
    obtain ⟨a0, a1, a2, a3⟩ := box_cells X1.out
    clear hb1 C X0 V0
    go_wp2_with fail
    clear a0 a1 a2 a3
    go_loopw [1, 5, 6] (fun s' v i wr => ∃ (k : Nat) (t : ByteArray) (z : Int) (acc : List ByteArray), acc.length + k ≤ g.gs.length ∧ s' = .string t ∧ i = .int .i64 z ∧ z + 1 = k ∧ Hid (wr.ownsRow (w.heap.size + 1) 9 1 v acc.length (acc.map Value.string)) ∧ Hid (acc ++ downL g k t = aboveL g s) ∧ Hid (GX w g wr)) (fun _ _ i _ => (intOf i + 1).toNat)
    case atStart => exact ⟨g.gs.length, s, _, [], by simp, rfl, rfl, by omega, V1, Lib.hid HL.out.symm, X1⟩
    case round =>
      clear X1 V1
      obtain ⟨k, t, z, acc, hlen, rfl, rfl, hzk, HV, HE, HX⟩ := hrel
      obtain ⟨a0, a1, a2, a3⟩ := box_cells HX.out
      have hgs := gx_size HX.out
      by_cases h0 : 0 ≤ z
      · obtain ⟨m, rfl⟩ : ∃ m : Nat, z = (m : Int) := ⟨z.toNat, by omega⟩
        obtain rfl : k = m + 1 := by omega
        have hlt : m < g.gs.length := by omega
        obtain ⟨b, off, hA, hb, hc⟩ := HI.out.gs.at_ (k := 2) (fun _ => rfl) (by omega) hlt
        have k0 := hc 0 _ rfl
        rw [Nat.add_zero] at k0
        have k1 := hc 1 _ rfl
        rw [← (gx_old HX.out).cell (p := ⟨b, _, none⟩) hb] at k0 k1
        rw [hA] at a0
        have HA := Lib.hid hA
        obtain ⟨va, vc, rfl⟩ := own_slice HV.out
        have hk0 : (0 : Int) ≤ (m : Int) := Int.natCast_nonneg _
        have hk1 : (m : Int) < (g.gs.length : Int) := by omega
        clear hc hA h0 hzk
        cases hq : (g.gs[m]!.name.toList == t.toList) with
        | false =>
          have HE' : Hid (acc ++ downL g m t = aboveL g s) := Lib.hid (by rw [← HE.out, down_miss hq])
          clear HE
          generalize g.gs[m]! = p at *
          go_wp2_with fail
          go_roundw
          case rel => exact ⟨m, t, _, acc, by omega, rfl, rfl, by omega, HV, HE', HX⟩
          case measure => simp [intOf]
        | true =>
          have HE' : Hid ((acc ++ [t]) ++ downL g m g.gs[m]!.parent = aboveL g s) := Lib.hid (by rw [← HE.out, down_hit hq, List.append_assoc]; rfl)
          clear HE
          generalize g.gs[m]! = p at *
          go_wp2_with (at_builtin; refine wpList_append_own _ rfl (.tmp 28) (.tmp 30) 34 rfl (w.heap.size + 1) 9 i0 _ 1 16 Tryz.underlying34 HI0.out HZ0.out HZ1.out HZ2.out rfl (by omega) _ _ _ rfl (HV.out.alloc _) ⟨wr.heap.size, 0, none⟩ 1 1 [.string t] rfl rfl ?c1 ?c2 ?c3 ?c4 ?c5 ?_)
          case c1 =>
            intro j u hj
            match j, hj with
            | 0, hj => simp at hj; subst hj; simp [Addr.add]
          case c2 => intro u hu; simp at hu; subst hu; rfl
          case c3 => unfold maxLen; omega
          case c4 => omega
          case c5 => simp; omega
          intro v' w4 hown' hgrow _
          have HX4 : Hid (GX w g w4) := Lib.hid ((gx_alloc HX.out _).grown hgrow (by rw [World.size_alloc]; omega) (fun j hj => (HV.out.lt j hj).1))
          have HV4 : Hid (w4.ownsRow (w.heap.size + 1) 9 1 v' (acc ++ [t]).length ((acc ++ [t]).map Value.string)) := Lib.hid (by
            rw [List.map_append, List.length_append]; exact hown')
          rw [(gx_old HX.out).cell (p := ⟨b, _, none⟩) hb, ← (gx_old HX4.out).cell (p := ⟨b, _, none⟩) hb] at k1
          clear hown' hgrow a0 a1 a2 a3 k0
          obtain ⟨a0, a1, a2, a3⟩ := box_cells HX4.out
          rw [HA.out] at a0
          go_wp2_with fail
          go_roundw
          case rel => exact ⟨m, p.parent, _, acc ++ [t], by simp; omega, rfl, rfl, by omega, HV4, HE', HX4⟩
          case measure => simp [intOf]
      · obtain rfl : z = -1 := by omega
        obtain rfl : k = 0 := by omega
        go_wp2_with fail
        go_ret
        exact ⟨_, rfl, by rw [← HE.out, show downL g 0 t = [] from rfl, List.append_nil]; exact own_base HV.out (Nat.le_succ _), gx_old HX.out⟩
end Go.Proofs.YtandfjahfbeaiaaGreat
namespace Go.Proofs.YtandfjahfbeaiaaGreat
open Go.RowKit Go.Shelf

theorem hasT_snoc {l : List ByteArray} {j : Nat} (h : j < l.length) (s : Key) : hasT (l.take (j + 1)) s = (hasT (l.take j) s || l[j]!.toList == s) := by
  rw [hasT, hasT, List.take_succ_eq_append_getElem h, List.any_append, getElem!_pos l j h]; simp
theorem hasT_nil (s : Key) : hasT [] s = false := rfl
def memC (g : Gr) (s : ByteArray) (k j : Nat) (L : List ByteArray) : Bool := g.es[k]!.name.toList == s.toList || hasT (L.take j) s.toList
theorem memC_0 (g : Gr) (s : ByteArray) (k : Nat) (L : List ByteArray) : memC g s k 0 L = (g.es[k]!.name.toList == s.toList) := by rw [memC, List.take_zero, hasT_nil, Bool.or_false]
theorem memC_yes {g : Gr} {s : ByteArray} {k j : Nat} {L : List ByteArray} (hj : j < L.length) (h : memC g s k j L = true) : memC g s k (j + 1) L = true := by
  rw [memC, hasT_snoc hj, ← Bool.or_assoc]; unfold memC at h; rw [h, Bool.true_or]
theorem memC_no {g : Gr} {s : ByteArray} {k j : Nat} {L : List ByteArray} (hj : j < L.length) (h : memC g s k j L = false) : memC g s k (j + 1) L = (L[j]!.toList == s.toList) := by
  rw [memC, hasT_snoc hj, ← Bool.or_assoc]; unfold memC at h; rw [h, Bool.false_or]
theorem memC_all (g : Gr) (s : ByteArray) (k : Nat) : memC g s k (aboveL g g.es[k]!.group).length (aboveL g g.es[k]!.group) = memR g s k := by rw [memC, memR, List.take_length]
theorem own_two {w : World} {B e e2 z z2 n n2 : Nat} {v v2 : Value} {xs ys : List Value} (h : w.ownsRow B e z v n xs) (h2 : w.ownsRow B e2 z2 v2 n2 ys) (hne : e ≠ e2) : v.ownBlock = none ∨ v.ownBlock ≠ v2.ownBlock := by
  rcases h.2 with ⟨rfl, _⟩ | ⟨g, cap, cur, rfl, _, hg, _⟩
  · exact .inl rfl
  · right
    rcases h2.2 with ⟨rfl, _⟩ | ⟨g2, cap2, cur2, rfl, _, hg2, _⟩
    · intro hb; cases hb
    · intro hb
      cases hb
      rw [hg] at hg2
      injection hg2 with hg2
      injection hg2 with _ h3
      exact hne h3
theorem str_cell {w : World} {B j : Nat} {L : List ByteArray} {gb c : Nat} (h : w.ownsRow B 9 1 (.slice (some ⟨gb, 0, none⟩) L.length c) L.length (L.map Value.string)) (hj : j < L.length) : w.cell? ⟨gb, j, none⟩ = some (.string L[j]!) := by
  have h1 := h.cellAt j (by omega)
  rw [List.getElem?_map, List.getElem?_eq_getElem hj, ← getElem!_pos L j hj] at h1
  exact h1
theorem own_some' {w : World} {B e z n : Nat} {v : Value} {xs : List Value} (h : w.ownsRow B e z v n xs) (hn : 0 < n) : ∃ b cap, v = .slice (some ⟨b, 0, none⟩) n cap ∧ b < w.heap.size := by
  rcases h.2 with ⟨hv, h0⟩ | ⟨g, cap, cur, hv, _, hg, _⟩
  · omega
  · exact ⟨g, cap, hv, (Array.getElem?_eq_some_iff.1 hg).1⟩

set_option maxRecDepth 100000 in
set_option maxHeartbeats 8000000 in
theorem rmembers_any (w : World) (g : Gr) (s : ByteArray) (hI : InG w g) (hz : SzG g) :
    Calls Tryz.prog 7 #[.agg #[.slice g.ga g.gs.length g.gc, .slice g.ea g.es.length g.ec, .slice g.ra g.rs.length g.rc, .slice g.ua g.us.length g.uc], .string s] w (IntsOf (memL g s) w) := by
  have HI := Lib.hid hI
  have z2 := hz.es
  have HZ := Lib.hid hz
  have hs0 := box_size w g
  have C := Lib.hid (rright_any ((boxW w g).alloc (.cells #[] 3)) g (hI.below (Nat.le_refl _) ((box_below w g).alloc (by omega) _)) hz)
  have X0 := Lib.hid (gx_alloc (gx_start w g) (.cells #[] 3))
  have V0 : Hid (((boxW w g).alloc (.cells #[] 3)).ownsRow (w.heap.size + 1) 3 1 (.slice (some ⟨w.heap.size + 1, 0, none⟩) 0 0) 0 []) := Lib.hid (by
    have h := own_emp (boxW w g) 3 1 (B := w.heap.size + 1) (by omega)
    rw [hs0] at h; exact h)
  have HS0 := Lib.hid hs0
  clear hI hz hs0
  cases hm : mayL g with
  | false =>
    have HL : Hid (memL g s = []) := Lib.hid (by rw [memL, hm]; rfl)
    rw [hm] at C
    clear hm
    go_enter Tryz.func7, Tryz.ntmps7
    go_wp2_with fail
    refine C.out.mono ?_
    rintro e w1 ⟨rfl, hb1⟩
    have HX1 := Lib.hid (gx_more X0.out hb1)
    have HV1 := Lib.hid (own_base (own_below V0.out hb1) (Nat.le_succ _))
    go_wp2_with fail
    go_ret
    exact ⟨_, rfl, by rw [HL.out]; exact HV1.out, gx_old HX1.out⟩
  | true =>
    have HL : Hid (memL g s = memF g s g.es.length) := Lib.hid (memF_mem hm s).symm
    have HF := Lib.hid (may_few hm)
    have f1 := HF.out.gs
    have f2 := HF.out.es
    have HAL : Hid (∀ c, (aboveL g c).length ≤ 40) := Lib.hid (fun c => by rw [← down_above hm]; have := down_len g g.gs.length c; omega)
    rw [hm] at C
    clear hm
    obtain ⟨i0, hi, hz0, hz1, hz2⟩ := info_parts infoInt
    have HI0 := Lib.hid hi
    have HZ0 := Lib.hid hz0
    have HZ1 := Lib.hid hz1
    have HZ2 := Lib.hid hz2
    clear hi hz0 hz1 hz2
    go_enter Tryz.func7, Tryz.ntmps7
    go_wp2_with fail
    refine C.out.mono ?_
    rintro e w1 ⟨rfl, hb1⟩
    have X1 := Lib.hid (gx_more X0.out hb1)
    have V1 := Lib.hid (own_below V0.out hb1)
    obtain ⟨a0, a1, a2, a3⟩ := box_cells X1.out
    clear hb1 C X0 V0
    go_wp2_with fail
    clear a0 a1 a2 a3
    go_loopw [5, 6] (fun v i wr => ∃ k : Nat, k ≤ g.es.length ∧ i = .int .i64 k ∧ Hid (wr.ownsRow (w.heap.size + 1) 3 1 v (memF g s k).length (intC (memF g s k))) ∧ Hid (GX w g wr)) (fun _ i _ => g.es.length - (intOf i).toNat)
    case atStart => exact ⟨0, Nat.zero_le _, rfl, V1, X1⟩
    case round =>
      clear X1 V1
      obtain ⟨k, hk, rfl, HV, HX⟩ := hrel
      obtain ⟨a0, a1, a2, a3⟩ := box_cells HX.out
      have hgs := gx_size HX.out
      have hml := memF_le g s k
      by_cases hlt : k < g.es.length
      · obtain ⟨b, off, hA, hb, hc⟩ := HI.out.es.at_ (k := 6) (fun _ => rfl) (by omega) hlt
        have k0 := hc 0 _ rfl
        rw [Nat.add_zero] at k0
        have k1 := hc 1 _ rfl
        rw [← (gx_old HX.out).cell (p := ⟨b, _, none⟩) hb] at k0 k1
        rw [hA] at a1
        have HA := Lib.hid hA
        obtain ⟨va, vc, rfl⟩ := own_slice HV.out
        have hk0 : (0 : Int) ≤ (k : Int) := Int.natCast_nonneg _
        have hk1 : (k : Int) < (g.es.length : Int) := by omega
        have hbw : b < wr.heap.size := by have := (gx_old HX.out).size; omega
        have HXd : Hid (GX w g wr.drew) := Lib.hid (below_draws HX.out 1)
        have HVd := Lib.hid (HV.out.drew)
        have C := Lib.hid (rabove_any wr.drew g g.es[k]!.group (HI.out.below (Nat.le_refl _) (gx_old HXd.out)) HZ.out)
        rw [hA] at C
        have hal := HAL.out g.es[k]!.group
        have HM0 := fun L => Lib.hid (memC_0 g s k L)
        have HMA := Lib.hid (memC_all g s k)
        clear hc hA
        obtain ⟨L, hL⟩ : ∃ L, aboveL g g.es[k]!.group = L := ⟨_, rfl⟩
        rw [hL] at C hal HMA
        clear hL
        obtain ⟨q, hq⟩ : ∃ q : Bool, (g.es[k]!.name.toList == s.toList) = q := ⟨_, rfl⟩
        have HM0' : Hid (memC g s k 0 L = q) := Lib.hid ((HM0 L).out.trans hq)
        clear HM0
        obtain ⟨p, hp⟩ : ∃ p, g.es[k]! = p := ⟨_, rfl⟩
        rw [hp] at k0 k1 C hq
        clear hp
        go_wp2_with fail
        clear hq
        go_still_tail 7, (by kernel_rfl)
        go_wp2_with fail
        refine C.out.mono ?_
        rintro e w5 ⟨v5, rfl, ho5, hb5⟩
        have HX5 := Lib.hid (gx_more HXd.out hb5)
        have HV5 := Lib.hid (own_below HVd.out hb5)
        obtain ⟨la, lc, rfl⟩ := own_slice ho5
        have HO5 := Lib.hid (own_base (B' := w.heap.size + 1) ho5 (by show w.heap.size + 1 ≤ wr.heap.size; omega))
        clear ho5 hb5 C HXd HVd HX HV a0 a1 a2 a3 k0 k1 hbw
        go_wp2_with fail
        obtain ⟨wo, rfl⟩ : ∃ wo : World, wo = wr := ⟨_, rfl⟩
        obtain ⟨va', hva⟩ : ∃ v : Value, v = .slice va (memF g s k).length vc := ⟨_, rfl⟩
        go_loopw [7, 9] (fun b j wx => ∃ m : Nat, m ≤ L.length ∧ j = .int .i64 m ∧ b = .bool (memC g s k m L) ∧ Hid (wx.ownsRow (w.heap.size + 1) 3 1 (.slice va (memF g s k).length vc) (memF g s k).length (intC (memF g s k))) ∧ Hid (wx.ownsRow (w.heap.size + 1) 9 1 (.slice la L.length lc) L.length (L.map Value.string)) ∧ Hid (GX w g wx)) (fun _ j _ => L.length - (intOf j).toNat)
        case atStart => exact ⟨0, Nat.zero_le _, rfl, by rw [HM0'.out], HV5, HO5, HX5⟩
        case round =>
          clear HV5 HO5 HX5
          obtain ⟨m, hm, rfl, rfl, HV, HO, HX⟩ := hrel
          by_cases hmt : m < L.length
          · obtain ⟨ob, oc, ho, hob⟩ := own_some' HO.out (by omega)
            injection ho with ho1 ho2 ho3
            subst ho1 ho3
            have hcell := str_cell HO.out hmt
            have hm0 : (0 : Int) ≤ (m : Int) := Int.natCast_nonneg _
            have hm1 : (m : Int) < (L.length : Int) := by omega
            cases hc : memC g s k m L with
            | true =>
              have HC := Lib.hid (memC_yes hmt hc)
              clear hc ho2
              go_wp2_with fail
              go_roundw
              case rel => exact ⟨m + 1, hmt, by go_num, by rw [HC.out], HV, HO, HX⟩
              case measure => simp [intOf]; omega
            | false =>
              have HC := Lib.hid (memC_no hmt hc)
              clear hc ho2
              generalize L[m]! = x at *
              go_wp2_with fail
              go_roundw
              case rel => exact ⟨m + 1, hmt, by go_num, by rw [HC.out], HV, HO, HX⟩
              case measure => simp [intOf]; omega
          · obtain rfl : m = L.length := by omega
            rw [HMA.out]
            clear HMA HM0'
            have hgs2 := gx_size HX.out
            cases hr : memR g s k with
            | false =>
              have HR := Lib.hid (memF_no hr)
              clear hr
              go_wp2_with fail
              go_roundw
              case rel => exact ⟨k + 1, hlt, by go_num, Lib.hid (by rw [HR.out]; exact HV.out), HX⟩
              case measure => simp [intOf]; omega
            | true =>
              have HR := Lib.hid (memF_yes hr)
              clear hr
              go_wp2_with (at_builtin; refine wpList_append_own _ rfl (.tmp 54) (.tmp 56) 30 rfl (w.heap.size + 1) 3 i0 _ 1 8 Tryz.underlying30 HI0.out HZ0.out HZ1.out HZ2.out rfl (by omega) _ _ _ rfl (HV.out.alloc _) ⟨wr.heap.size, 0, none⟩ 1 1 [.int .i64 k] rfl rfl ?c1 ?c2 ?c3 ?c4 ?c5 ?_)
              case c1 =>
                intro j u hj
                match j, hj with
                | 0, hj => simp at hj; subst hj; simp [Addr.add]
              case c2 => intro u hu; simp at hu; subst hu; rfl
              case c3 => unfold maxLen; omega
              case c4 => omega
              case c5 => simp; omega
              intro v' w4 hown' hgrow _
              have HX4 : Hid (GX w g w4) := Lib.hid ((gx_alloc HX.out _).grown hgrow (by rw [World.size_alloc]; omega) (fun j hj => (HV.out.lt j hj).1))
              have HV4 : Hid (w4.ownsRow (w.heap.size + 1) 3 1 v' (memF g s (k + 1)).length (intC (memF g s (k + 1)))) := Lib.hid (by
                rw [HR.out, intC, List.map_append, List.length_append]; exact hown')
              clear hown' hgrow
              go_wp2_with fail
              go_roundw
              case rel => exact ⟨k + 1, hlt, by go_num, HV4, HX4⟩
              case measure => simp [intOf]; omega
      · obtain rfl : k = g.es.length := by omega
        go_wp2_with fail
        go_ret
        exact ⟨_, rfl, by rw [HL.out]; exact own_base HV.out (Nat.le_succ _), gx_old HX.out⟩
end Go.Proofs.YtandfjahfbeaiaaGreat
