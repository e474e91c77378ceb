/-
  Contract of Rings.
-/
import Derived.Test.YtaagpnepkjkfoaaRoA
namespace Go.Proofs.Ytaagpnepkjkfoaa.R6
open Go.RowKit Go.Shelf Go.Proofs.Ytaagpnepkjkfoaa.B

theorem info_row' : (Try.prog.info? 26).map (fun i => (i.zero, i.size, i.bytes)) = some (some (.slice none 0 0), 1, 24) := by kernel_rfl
/-- The rings so far, as ints; of each head the place of its ring. -/
def gI (H : List Int) (k : Nat) : List (List Int) := (gatherL H k).map fun l => l.map fun j : Nat => (j : Int)
def pL (H : List Int) (N k : Nat) : List Nat := (List.range N).map (fun z : Nat => placeB H k (z : Int))
theorem gI_len (H : List Int) (k : Nat) : (gI H k).length = cntF H k := by rw [gI, List.length_map, gather_len]
theorem pL_len (H : List Int) (N k : Nat) : (pL H N k).length = N := by simp [pL]
theorem pL_at {H : List Int} {N k z : Nat} (hz : z < N) : (pL H N k)[z]! = placeB H k (z : Int) := by
  rw [getElem!_pos _ z (by rw [pL_len]; exact hz)]; simp [pL]
theorem cnt_le (H : List Int) (k : Nat) : cntF H k ≤ k := by
  unfold cntF
  have := List.length_filter_le (firstB H) (List.range k)
  simpa using this
theorem place_le {H : List Int} {k : Nat} (z : Int) : placeB H k z ≤ k := by
  by_cases h : ∀ i, i < k → H[i]! ≠ z
  · rw [place_none h]; exact Nat.zero_le _
  · have : ∃ i, i < k ∧ H[i]! = z := by
      apply Classical.byContradiction
      intro hno
      exact h (fun i hi e => hno ⟨i, hi, e⟩)
    obtain ⟨i, hi, rfl⟩ := this
    obtain ⟨p, _, h1, h2, _⟩ := place_some (H := H) hi
    have := cnt_le H k
    omega
theorem gI_new {H : List Int} {k : Nat} (h : placeB H k H[k]! = 0) : gI H (k + 1) = (gI H k ++ [[]]).set (cntF H k) ([] ++ [(k : Int)]) ∧ (gI H k ++ [[]])[cntF H k]! = [] ∧ cntF H k < (gI H k ++ [[]]).length := by
  have hl := gI_len H k
  refine ⟨?_, ?_, by rw [List.length_append, hl]; simp⟩
  · unfold gI at hl ⊢
    rw [(place_new h).2.1, List.map_append, List.set_append_right _ _ (by omega), hl, Nat.sub_self]
    simp
  · rw [getElem!_pos _ _ (by rw [List.length_append, hl]; simp), List.getElem_append_right (by omega)]
    simp [hl]
theorem gI_old {H : List Int} {k p : Nat} (h : placeB H k H[k]! = p + 1) : gI H (k + 1) = (gI H k).set p ((gI H k)[p]! ++ [(k : Int)]) ∧ p < (gI H k).length := by
  obtain ⟨_, h2, h3, _⟩ := place_old h
  have hp : p < (gI H k).length := by unfold gI; rw [List.length_map]; exact h2
  refine ⟨?_, hp⟩
  have hm : (gI H k)[p]! = ((gatherL H k)[p]!).map (fun j : Nat => (j : Int)) := by rw [getElem!_pos _ p hp, getElem!_pos _ p h2]; simp [gI]
  rw [hm]
  unfold gI
  rw [h3, List.map_set, List.map_append]
  rfl
theorem gI_row_le {H : List Int} {k p : Nat} (hp : p < (gI H k).length) : ((gI H k)[p]!).length ≤ k := by
  have hm : (gI H k)[p]! ∈ gI H k := Go.Proofs.Ytaagpnepkjkfoaa.B.mem_at hp
  generalize (gI H k)[p]! = q at *
  obtain ⟨l, hl, e⟩ := List.mem_map.1 hm
  obtain ⟨i, _, rfl⟩ := List.mem_map.1 hl
  rw [← e, List.length_map]
  unfold ringOf
  have := List.length_filter_le (fun j => decide (H[j]! = H[i]!)) (List.range k)
  simpa using this
theorem pL_new {H : List Int} {N k z : Nat} (hz : z < N) (he : H[k]! = (z : Int)) (h : placeB H k H[k]! = 0) : pL H N (k + 1) = (pL H N k).set z (cntF H k + 1) := by
  refine list_ext (by rw [List.length_set, pL_len, pL_len]) (fun i hi => ?_)
  rw [pL_len] at hi
  rw [pL_at hi, set_get (by rw [pL_len]; exact hz), pL_at hi, place_step]
  by_cases e : i = z
  · subst e; rw [if_pos rfl, if_pos ⟨h, he.symm⟩]
  · rw [if_neg e, if_neg (fun hh => e (by have := hh.2; rw [he] at this; omega))]
theorem pL_old {H : List Int} {N k p : Nat} (h : placeB H k H[k]! = p + 1) : pL H N (k + 1) = pL H N k := by
  unfold pL
  refine List.map_congr_left (fun i _ => ?_)
  rw [place_step, if_neg (fun hh => by have := hh.1; omega)]
theorem pL_zero (H : List Int) (N : Nat) : pL H N 0 = List.replicate N 0 := by
  refine list_ext (by rw [pL_len]; simp) (fun i hi => ?_)
  rw [pL_len] at hi
  rw [pL_at hi, place_none (fun j hj => by omega), getElem!_pos _ i (by simpa using hi)]; simp
/-- Between two rounds. -/
structure RG (w : World) (B g2 N k : Nat) (H : List Int) (v : Value) (W : World) : Prop where
  r : ORows B B W v (gI H k)
  p : W.ownsRow w.heap.size 3 1 (rowAt w.heap.size N) N ((pL H N k).map iv)
  h : W.ownsRow w.heap.size 3 1 (rowAt g2 N) N (H.map (Value.int .i64))
  b : Below w.heap.size w W
theorem orows_start (Bo Bi : Nat) (W : World) : ORows Bo Bi W (.slice none 0 0) [] := ⟨[], rfl, World.ownsRow_nil _ _ _ _, fun i hi => by simp at hi, fun i j hi => by simp at hi⟩
theorem orows_len {Bo Bi : Nat} {W : World} {v : Value} {vs : List Value} {ls : List (List Int)} (h : ORv Bo Bi W v vs ls) : ∃ a c, v = .slice a ls.length c := own_slice h.out
set_option maxRecDepth 100000 in
set_option maxHeartbeats 8000000 in
theorem rings_any (w : World) (A : Option Addr) (c : Nat) (rs : List RW) (hn : NetIn w A rs) (hN : rs.length ≤ 900) (hrow : ∀ r ∈ rs, r.l.length ≤ 100000) :
    Calls Try.prog 15 #[.slice A rs.length c] w fun e w' => ∃ v, e = .returned v ∧ ORows w.heap.size w.heap.size w' v ((ringsL (netOf rs)).map fun l => l.map fun j : Nat => (j : Int)) ∧ Below w.heap.size w w' := by
  obtain ⟨i0, hi0, hi1, hi2, hi3⟩ := info_parts info_int'
  obtain ⟨j0, hj0, hj1, hj2, hj3⟩ := info_parts info_row'
  have hnl : (netOf rs).length = rs.length := net_len _
  have hb := make_ints rs.length (by omega)
  obtain ⟨cs, hcs⟩ : ∃ cs, cs = ((List.replicate rs.length (0 : Int)).map (Value.int .i64)).toArray := ⟨_, rfl⟩
  rw [← hcs] at hb
  have hb1 := (Below.refl w.heap.size w).alloc (Nat.le_refl _) (.cells cs 3)
  have C := Lib.hid (heads_any (w.alloc (.cells cs 3)) A c rs (hn.below (Nat.le_refl _) hb1) hN hrow)
  have hp1 : (w.alloc (.cells cs 3)).ownsRow w.heap.size 3 1 (rowAt w.heap.size rs.length) rs.length ((pL (headL (netOf rs)) rs.length 0).map iv) := by
    rw [pL_zero, ← zeros_iv]
    exact own_all (Nat.le_refl _) (by rw [← hcs]; exact heap_new _ _) (by simp) (by omega)
  have HHD : Hid (∀ x, x < rs.length → ∃ z : Nat, z < rs.length ∧ (headL (netOf rs))[x]! = (z : Int)) := Lib.hid (fun x hx => by
    obtain ⟨z, h1, h2, _⟩ := head_in (n := netOf rs) (x := x) (by rw [hnl]; exact hx)
    exact ⟨z, by rw [hnl] at h1; exact h1, h2⟩)
  have HRL : Hid (gI (headL (netOf rs)) rs.length = (ringsL (netOf rs)).map fun l => l.map fun j : Nat => (j : Int)) := Lib.hid (by unfold gI ringsL; rw [hnl])
  have hhl := headL_len (netOf rs)
  rw [hnl] at hhl
  have HP1 := Lib.hid hp1
  have HB1 := Lib.hid hb1
  have hs1 : (w.alloc (.cells cs 3)).heap.size = w.heap.size + 1 := World.size_alloc _ _
  rw [hs1] at C
  clear hn hrow hb1 hp1 hcs hnl
  generalize headL (netOf rs) = H at *
  go_enter Try.func15, Try.ntmps15
  go_wp2_with fail
  refine C.out.mono ?_
  rintro e w2 ⟨rfl, ho2, hb2⟩
  have hbw : Below w.heap.size w w2 := HB1.out.trans (hb2.mono (by omega))
  have hp2 := own_keep HP1.out (w' := w2) (fun q hq => hb2.block q (by simp only [Value.ownBlock, Option.some.injEq] at hq; omega))
  have hz2 := hb2.size
  have hgl := (own_block ho2 rfl).2
  have h0 : Hid (RG w w2.heap.size (w.heap.size + 1) rs.length 0 H (.slice none 0 0) w2) := Lib.hid ⟨by show ORows _ _ _ _ (gI H 0); exact orows_start _ _ _, hp2, own_base ho2 (by omega), hbw⟩
  have hwz : w.heap.size ≤ w2.heap.size := hbw.size
  obtain ⟨B, hBd⟩ : ∃ B, B = w2.heap.size := ⟨_, rfl⟩
  rw [← hBd] at h0 hwz hgl
  have hBle : B ≤ w2.heap.size := by omega
  clear C HP1 HB1 ho2 hb2 hbw hp2 hb hs1 hBd
  go_wp2_with fail
  go_loopw [3, 14] (fun v i wr => ∃ k : Nat, k ≤ rs.length ∧ i = .int .i64 k ∧ Hid (RG w B (w.heap.size + 1) rs.length k H v wr) ∧ B ≤ wr.heap.size) (fun _ i _ => rs.length - (intOf i).toNat)
  case atStart => exact ⟨0, Nat.zero_le _, rfl, h0, hBle⟩
  case round =>
    clear h0
    obtain ⟨k, hk, rfl, HR, hBw⟩ := hrel
    by_cases hlt : k < rs.length
    · obtain ⟨z, hz, hze⟩ := HHD.out k hlt
      have ch := (HR.out.h.cellAt k (by omega)).trans (map_get _ (by omega))
      rw [hze] at ch
      have hpl := pL_len H rs.length k
      have cp := (HR.out.p.cellAt z (by omega)).trans (map_get iv (by omega))
      have fp := HR.out.p.frozenAt z
      rw [pL_at hz] at cp
      have hk0 : (0 : Int) ≤ (k : Int) := Int.natCast_nonneg _
      have hk1 : (k : Int) < (rs.length : Int) := by omega
      have hz0 : (0 : Int) ≤ (z : Int) := Int.natCast_nonneg _
      have hz1' : (z : Int) < (rs.length : Int) := by omega
      have hple := place_le (H := H) (k := k) (z : Int)
      obtain ⟨vs, hv⟩ := HR.out.r
      obtain ⟨va, vc, rfl⟩ := orows_len hv
      have hcl := gI_len H k
      have hcle := cnt_le H k
      have hg1 := (own_block HR.out.h (g := w.heap.size + 1) rfl).2
      rw [hcl] at HR ⊢
      have HV := Lib.hid hv
      by_cases hpz : placeB H k (z : Int) = 0
      · have hnew := gI_new (H := H) (k := k) (by rw [hze]; exact hpz)
        have hpn := pL_new hz hze (by rw [hze]; exact hpz)
        rw [hpz] at cp
        have cp' : wr.cell? ⟨w.heap.size, z, none⟩ = some (.int .i64 0) := cp
        have hout := hv.out
        rw [hcl] at hout
        have HOUT := Lib.hid hout
        have HNEW0 := Lib.hid hnew
        have HPN := Lib.hid hpn
        have HHR := Lib.hid HR.out
        have hwlt : w.heap.size < wr.heap.size := by omega
        clear hnew hpn cp hout hv HR
        go_wp2_with (at_builtin; refine wpList_append_own_at _ rfl (.tmp 24) (.tmp 25) 22 rfl B 26 j0 _ 1 24 Try.underlying22 hj0 hj1 hj2 hj3 rfl (by omega) _ _ _ rfl (HOUT.out.alloc _) ⟨wr.heap.size, 0, none⟩ 1 1 [.slice none 0 0] rfl rfl ?c1 ?c2 ?c3 ?c4 ?c5 ?_)
        case c1 =>
          intro j u hj
          have hn := heap_new wr (.cells #[.slice none 0 0] 26)
          match j, hj with
          | 0, hj => cases hj; exact cell_blk hn rfl
        case c2 => first | rfl | (intro u hu; simp at hu; rw [hu]; rfl)
        case c3 => unfold maxLen; omega
        case c4 => omega
        case c5 => first | omega | (rw [World.size_alloc]; omega)
        intro v1 w4 hown' hgrow _ hat
        have hz4 : wr.heap.size + 1 ≤ w4.heap.size := by have := hgrow.size; rw [World.size_alloc] at this; exact this
        have hba := (Below.refl wr.heap.size wr).alloc (Nat.le_refl _) (.cells #[.slice none 0 0] 26)
        have hORa := HV.out.keep (W' := wr.alloc (.cells #[.slice none 0 0] 26)) (fun q hq => hba.block q (by
          rcases hq with hq | ⟨i, hi, hq⟩
          · exact (own_block HV.out.out hq).2
          · exact (own_block (HV.out.inn i hi) hq).2))
        have hpush := hORa.push hcl.symm hown' (by rw [hcl]; exact hgrow)
        obtain ⟨g, gc, hg, hgB, hgz⟩ := own_head hown' (by omega)
        subst hg
        have hlow4 : ∀ q, q < B → w4.heap[q]? = wr.heap[q]? := fun q hq => (hgrow.block q (by rw [World.size_alloc]; omega) (fun e => by have := (own_block HOUT.out e.symm).1; omega)).trans (hba.block q (by omega))
        have hp4 := own_keep HHR.out.p (w' := w4) (fun q hq => hlow4 q (by simp only [Value.ownBlock, Option.some.injEq] at hq; omega))
        have cp4 := (hp4.cellAt z (by omega)).trans (map_get iv (by omega))
        rw [pL_at hz, hpz] at cp4
        have cp4' : w4.cell? ⟨w.heap.size, z, none⟩ = some (.int .i64 0) := cp4
        have fp4 := hp4.frozenAt z
        have hst := (hp4.stored z (iv (cntF H k + 1))).1
        rw [set_map iv, ← HPN.out] at hst
        obtain ⟨w5, hw5⟩ : ∃ w5, w5 = w4.setCell ⟨w.heap.size, z, none⟩ (iv (cntF H k + 1)) := ⟨_, rfl⟩
        rw [← hw5] at hst
        have he5 : Ext (fun q => q = w.heap.size) w4 w5 := by rw [hw5]; exact Ext.set (F := fun q => q = w.heap.size) w4 _ rfl
        have hs5 : w5.heap.size = w4.heap.size := by rw [hw5]; exact World.size_setCell _ _ _
        have hOR5 := hpush.keep (W' := w5) (fun q hq => he5.block q (by
          rcases hq with hq | ⟨i, hi, hq⟩
          · exact (own_block hpush.out hq).2
          · exact (own_block (hpush.inn i hi) hq).2) (by
          rcases hq with hq | ⟨i, hi, hq⟩
          · have := (own_block hpush.out hq).1; omega
          · have := (own_block (hpush.inn i hi) hq).1; omega))
        have hcz := HNEW0.out.2.2
        have hvs' : (vs ++ [Value.slice none 0 0])[cntF H k]! = .slice none 0 0 := by
          have hvl := HV.out.len
          rw [getElem!_pos _ _ (by rw [List.length_append]; simp; omega), List.getElem_append_right (by omega)]; simp
        have hout5 : w5.ownsRow B 26 1 (.slice (some ⟨g, 0, none⟩) (cntF H k + 1) gc) (cntF H k + 1) (vs ++ [.slice none 0 0]) := own_keep hown' (fun q hq => he5.block q (own_block hown' hq).2 (by have := (own_block hown' hq).1; omega))
        have cv5 := (hout5.cellAt (cntF H k) (by omega)).trans (by rw [List.getElem?_eq_getElem (by rw [List.length_append, HV.out.len, hcl]; simp), ← getElem!_pos _ (cntF H k) (by rw [List.length_append, HV.out.len, hcl]; simp), hvs'])
        have fv5 := hout5.frozenAt (cntF H k)
        have cp5 := (hst.cellAt z (by omega)).trans (map_get iv (by rw [pL_len]; exact hz))
        rw [HPN.out, set_get (by rw [pL_len]; exact hz), if_pos rfl] at cp5
        have HOR5 := Lib.hid hOR5
        have HST5 := Lib.hid hst
        have HOUT5 := Lib.hid hout5
        have hb5 : Below w.heap.size w w5 := he5.below (HHR.out.b.trans ⟨hgrow.os, hgrow.tape, hgrow.output, by omega, fun q hq => hlow4 q (by omega)⟩) (fun i hi => by omega) (by omega)
        have HB5 := Lib.hid hb5
        have hh5 := own_keep HHR.out.h (w' := w5) (fun q hq => by
          simp only [Value.ownBlock, Option.some.injEq] at hq
          exact (he5.block q (by omega) (by omega)).trans (hlow4 q (by omega)))
        have HH5 := Lib.hid hh5
        have hc0 : (0 : Int) ≤ (cntF H k : Int) := Int.natCast_nonneg _
        have hc1 : (cntF H k : Int) < (cntF H k : Int) + 1 := by omega
        have HGZ := Lib.hid hgz
        have cv4 := (hown'.cellAt (cntF H k) (by omega)).trans (by rw [List.getElem?_eq_getElem (by rw [List.length_append, HV.out.len, hcl]; simp), ← getElem!_pos _ (cntF H k) (by rw [List.length_append, HV.out.len, hcl]; simp), hvs'])
        have fv4 := hown'.frozenAt (cntF H k)
        have hw4lt : w.heap.size < w4.heap.size := by omega
        have HW5 := Lib.hid hw5
        have HS5 := Lib.hid hs5
        have HVS' := Lib.hid hvs'
        have HV0 := Lib.hid HV.out.len
        clear hw5 hs5 hORa hpush hat hp4 hst he5 hOR5 hout5 hb5 hh5 hgrow hown' hlow4 hba HHR HV HOUT cp4 hvs'
        go_wp2_with (at_builtin; refine wpList_append_own_at _ rfl (.tmp 42) (.tmp 44) 26 rfl B 3 i0 _ 1 8 Try.underlying26 hi0 hi1 hi2 hi3 rfl (by omega) _ _ _ rfl (World.ownsRow_nil _ B 3 1) ⟨w4.heap.size, 0, none⟩ 1 1 [iv k] rfl rfl ?d1 ?d2 ?d3 ?d4 ?d5 ?_)
        case d1 =>
          intro j u hj
          have hn := heap_new (w4.setCell ⟨w.heap.size, z, none⟩ (iv (cntF H k + 1))) (.cells #[iv k] 3)
          rw [World.size_setCell] at hn
          match j, hj with
          | 0, hj => cases hj; exact cell_blk hn rfl
        case d2 => first | rfl | (intro u hu; simp at hu; rw [hu]; rfl)
        case d3 => unfold maxLen; omega
        case d4 => omega
        case d5 => first | omega | (rw [World.size_alloc, World.size_setCell]; omega)
        intro v2 w6 hown2 hgrow2 _ hat2
        obtain ⟨va2, vc2, rfl⟩ := own_slice hown2
        have hgrow3 : (w5.alloc (.cells #[iv k] 3)).grownBy w6 none := by rw [HW5.out]; exact hgrow2
        have hz6 := hgrow3.size
        rw [World.size_alloc, HS5.out] at hz6
        have hs5 := HS5.out
        have hba2 := (Below.refl w5.heap.size w5).alloc (Nat.le_refl _) (.cells #[iv k] 3)
        have hORa := HOR5.out.keep (W' := w5.alloc (.cells #[iv k] 3)) (fun q hq => hba2.block q (by
          rcases hq with hq | ⟨i, hi, hq⟩
          · exact (own_block HOR5.out.out hq).2
          · exact (own_block (HOR5.out.inn i hi) hq).2))
        have hput := hORa.put (p := cntF H k) (a := k) (v' := .slice va2 (0 + 1) vc2) (W1 := w6) HNEW0.out.2.2 (by rw [List.length_append, hcl]; rfl) (by rw [HNEW0.out.2.1]; exact hown2) (by rw [HVS'.out]; exact hgrow3) (by
          rw [HVS'.out]
          rcases hat2 with h | h
          · exact .inl h
          · exact .inr ⟨_, h, by rw [World.size_alloc, HS5.out]; first | exact Nat.le_refl _ | (rw [World.size_alloc, World.size_setCell]; exact Nat.le_refl _)⟩)
        rw [HNEW0.out.2.1, ← HNEW0.out.1] at hput
        have hblk6 : ∀ q, q < w5.heap.size → w6.heap[q]? = w5.heap[q]? := fun q hq => (hgrow3.block q (by rw [World.size_alloc]; omega) (fun e => by cases e)).trans (hba2.block q hq)
        have hout6 : w6.ownsRow B 26 1 (.slice (some ⟨g, 0, none⟩) (cntF H k + 1) gc) (cntF H k + 1) (vs ++ [.slice none 0 0]) := own_keep HOUT5.out (fun q hq => hblk6 q (own_block HOUT5.out hq).2)
        have cv6 := (hout6.cellAt (cntF H k) (by omega)).trans (by rw [List.getElem?_eq_getElem (by rw [List.length_append, HV0.out, hcl]; simp), ← getElem!_pos _ (cntF H k) (by rw [List.length_append, HV0.out, hcl]; simp), HVS'.out])
        have fv6 := hout6.frozenAt (cntF H k)
        have hlow : ∀ q, q < B → (w6.setCell ⟨g, cntF H k, none⟩ (.slice va2 (0 + 1) vc2)).heap[q]? = w5.heap[q]? := fun q hq => (blk_other (by omega)).trans (hblk6 q (by omega))
        have hb6 : Below w.heap.size w (w6.setCell ⟨g, cntF H k, none⟩ (.slice va2 (0 + 1) vc2)) := HB5.out.trans ⟨hgrow3.os, hgrow3.tape, hgrow3.output, by rw [World.size_setCell]; omega, fun q hq => hlow q (by omega)⟩
        have HNEW : Hid (RG w B (w.heap.size + 1) rs.length (k + 1) H (.slice (some ⟨g, 0, none⟩) (cntF H k + 1) gc) (w6.setCell ⟨g, cntF H k, none⟩ (.slice va2 (0 + 1) vc2))) := Lib.hid ⟨⟨_, hput⟩, own_keep HST5.out (fun q hq => hlow q (by simp only [Value.ownBlock, Option.some.injEq] at hq; omega)), own_keep HH5.out (fun q hq => hlow q (by simp only [Value.ownBlock, Option.some.injEq] at hq; omega)), hb6⟩
        have hBz : B ≤ (w6.setCell ⟨g, cntF H k, none⟩ (.slice va2 (0 + 1) vc2)).heap.size := by rw [World.size_setCell]; omega
        have hgz6 : g < w6.heap.size := by have := HGZ.out; omega
        clear hput hout6 hlow hb6 hORa hgrow2 hgrow3 hat2 hown2 hblk6 hba2 HOR5 HST5 HOUT5 HB5 HH5
        go_wp2_with fail
        go_roundw
        case rel => exact ⟨k + 1, hlt, by go_num, HNEW, hBz⟩
        case measure => simp [intOf]; omega
      · obtain ⟨p, hp⟩ : ∃ p, placeB H k (z : Int) = p + 1 := ⟨placeB H k (z : Int) - 1, by omega⟩
        obtain ⟨hold, hpl2⟩ := gI_old (H := H) (k := k) (p := p) (by rw [hze]; exact hp)
        have hpo := pL_old (N := rs.length) (H := H) (k := k) (p := p) (by rw [hze]; exact hp)
        rw [hp] at cp
        have cp' : wr.cell? ⟨w.heap.size, z, none⟩ = some (.int .i64 ((p : Int) + 1)) := cp
        have hout := hv.out
        rw [hcl] at hout
        have hrow := hv.inn p hpl2
        have hvl : p < vs.length := by rw [hv.len]; exact hpl2
        obtain ⟨g, gc, hg, hgB, hgz⟩ := own_head hout (by omega)
        injection hg with e1 e2 e3
        subst e1
        subst e3
        have cv := (hout.cellAt p (by omega)).trans (by rw [List.getElem?_eq_getElem hvl, ← getElem!_pos vs p hvl])
        have fv := hout.frozenAt p
        obtain ⟨ra, rc, hra⟩ := own_slice hrow
        rw [hra] at cv
        have hp0 : (0 : Int) ≤ (p : Int) := Int.natCast_nonneg _
        have hp1 : (p : Int) < (cntF H k : Int) := by omega
        have hne : ((p : Int) + 1 == 0) = false := by rw [beq_eq_false_iff_ne]; omega
        have HOLD := Lib.hid hold
        have HPO := Lib.hid hpo
        have HRA := Lib.hid hra
        have HROW := Lib.hid hrow
        have hrl := gI_row_le hpl2
        have HHR := Lib.hid HR.out
        have HOUT := Lib.hid hout
        have hty : ∀ q, vs[p]!.ownBlock = some q → q ≠ g := fun q hq e => own_types hrow hout (by decide) hq (by rw [e]; rfl)
        have HTY := Lib.hid hty
        clear hv hold hpo hra cp hout HR hty
        generalize hlr : (gI H k)[p]! = lr at *
        have HLR := Lib.hid hlr
        clear hrow hlr
        go_wp2_with (at_builtin; refine wpList_append_own_at _ rfl (.tmp 42) (.tmp 44) 26 rfl B 3 i0 _ 1 8 Try.underlying26 hi0 hi1 hi2 hi3 rfl (by omega) _ _ _ rfl (HRA.out ▸ HROW.out.alloc _) ⟨wr.heap.size, 0, none⟩ 1 1 [iv k] rfl rfl ?c1 ?c2 ?c3 ?c4 ?c5 ?_)
        case c2 => first | rfl | (intro u hu; simp at hu; rw [hu]; rfl)
        case c3 => unfold maxLen; omega
        case c4 => omega
        case c5 => omega
        intro v' w4 hown' hgrow _ hat
        have hz4 : wr.heap.size + 1 ≤ w4.heap.size := by have := hgrow.size; rw [World.size_alloc] at this; exact this
        obtain ⟨va', vc', rfl⟩ := own_slice hown'
        have hba := (Below.refl wr.heap.size wr).alloc (Nat.le_refl _) (.cells #[iv k] 3)
        have hza : (wr.alloc (.cells #[iv k] 3)).heap.size = wr.heap.size + 1 := World.size_alloc _ _
        rw [← HRA.out] at hgrow hat
        have hORa := HV.out.keep (W' := wr.alloc (.cells #[iv k] 3)) (fun q hq => hba.block q (by
          rcases hq with hq | ⟨i, hi, hq⟩
          · exact (own_block HV.out.out hq).2
          · exact (own_block (HV.out.inn i hi) hq).2))
        have hput := hORa.put hpl2 rfl (by rw [HLR.out]; exact hown') hgrow (hat.imp (fun h => h) (fun h => ⟨_, h, by omega⟩))
        rw [HLR.out, ← HOLD.out, hcl] at hput
        have hbg : w4.heap[g]? = wr.heap[g]? := (hgrow.block g (by rw [World.size_alloc]; omega) (fun e => HTY.out g e.symm rfl)).trans (hba.block g hgz)
        have hout4 : w4.ownsRow B 26 1 (.slice (some ⟨g, 0, none⟩) (cntF H k) vc) (cntF H k) vs := own_keep HOUT.out (fun q hq => by simp only [Value.ownBlock, Option.some.injEq] at hq; subst hq; exact hbg)
        have cv4 := (hout4.cellAt p (by omega)).trans (by rw [List.getElem?_eq_getElem hvl, ← getElem!_pos vs p hvl])
        rw [HRA.out] at cv4
        have fv4 := hout4.frozenAt p
        have hlow : ∀ q, q < B → (w4.setCell ⟨g, p, none⟩ (.slice va' (lr.length + 1) vc')).heap[q]? = wr.heap[q]? := fun q hq => (blk_other (by omega)).trans ((hgrow.block q (by rw [World.size_alloc]; omega) (fun e => by have := (own_block HROW.out e.symm).1; omega)).trans (hba.block q (by omega)))
        have hb4 : Below w.heap.size w (w4.setCell ⟨g, p, none⟩ (.slice va' (lr.length + 1) vc')) := HHR.out.b.trans ⟨hgrow.os, hgrow.tape, hgrow.output, by rw [World.size_setCell]; omega, fun q hq => hlow q (by omega)⟩
        have HNEW : Hid (RG w B (w.heap.size + 1) rs.length (k + 1) H (.slice (some ⟨g, 0, none⟩) (cntF H k) vc) (w4.setCell ⟨g, p, none⟩ (.slice va' (lr.length + 1) vc'))) := Lib.hid ⟨⟨_, hput⟩, by
            rw [HPO.out]; exact own_keep HHR.out.p (fun q hq => hlow q (by simp only [Value.ownBlock, Option.some.injEq] at hq; omega)), own_keep HHR.out.h (fun q hq => hlow q (by simp only [Value.ownBlock, Option.some.injEq] at hq; omega)), hb4⟩
        have hBz : B ≤ (w4.setCell ⟨g, p, none⟩ (.slice va' (lr.length + 1) vc')).heap.size := by rw [World.size_setCell]; omega
        have hgz4 : g < w4.heap.size := by omega
        clear hput hout4 hlow hb4 hORa hgrow hat hown' HOUT HV hbg
        go_wp2_with fail
        go_roundw
        case rel => exact ⟨k + 1, hlt, by go_num, HNEW, hBz⟩
        case measure => simp [intOf]; omega
    · obtain rfl : k = rs.length := by omega
      have h1 := HR.out.r
      rw [HRL.out] at h1
      obtain ⟨vs, hv⟩ := h1
      obtain ⟨va, vc, rfl⟩ := orows_len hv
      have HV := Lib.hid hv
      have HB := Lib.hid HR.out.b
      clear hv HR
      go_wp2_with fail
      go_ret
      exact ⟨_, rfl, ⟨vs, HV.out.len, own_base HV.out.out hwz, fun i hi => own_base (HV.out.inn i hi) hwz, HV.out.dis⟩, HB.out⟩
end Go.Proofs.Ytaagpnepkjkfoaa.R6
