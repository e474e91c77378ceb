/-
  Contract of needs.Matters.
-/
import Derived.Test.YtaagpnepkjkfoaaNdQ
namespace Go.Proofs.Ytaagpnepkjkfoaa.N7
open Go.RowKit Go.Shelf Go.Proofs.Ytaagpnepkjkfoaa.B Go.Proofs.Ytaagpnepkjkfoaa.R6

/-- The net, and what may be called for, both there. -/
structure MM (w : World) (N g : Nat) (vs : List Value) (n : NetL) (va : Option Addr) (vc : Nat) (L : List Int) (W : World) : Prop where
  o : ORv w.heap.size w.heap.size W (.slice (some ⟨g, 0, none⟩) N N) vs n
  r : W.ownsRow w.heap.size 3 1 (.slice va L.length vc) L.length (L.map (Value.int .i64))
  d : ∀ i : Nat, i < n.length → ∀ q, vs[i]!.ownBlock = some q → (Value.slice va L.length vc).ownBlock ≠ some q
  l : Below w.heap.size w W
section
variable {w W W1 : World} {N g vc : Nat} {vs : List Value} {n : NetL} {va : Option Addr} {L : List Int}
theorem MM.call (h : MM w N g vs n va vc L W) (hb : Below W.heap.size W W1) : MM w N g vs n va vc L W1 :=
  ⟨h.o.keep (fun q hq => hb.block q (by
    rcases hq with hq | ⟨i, hi, hq⟩
    · exact (own_block h.o.out hq).2
    · exact (own_block (h.o.inn i hi) hq).2)), own_below h.r hb, h.d, h.l.trans (hb.mono h.l.size)⟩
/-- The net first, then what may be called for. -/
theorem MM.made {w W W1 : World} (h1 : ORv w.heap.size w.heap.size W (.slice (some ⟨g, 0, none⟩) N N) vs n) (hl : Below w.heap.size w W) (h2 : W1.ownsRow W.heap.size 3 1 (.slice va L.length vc) L.length (L.map (Value.int .i64))) (hb : Below W.heap.size W W1) : MM w N g vs n va vc L W1 :=
  ⟨h1.keep (fun q hq => hb.block q (by
    rcases hq with hq | ⟨i, hi, hq⟩
    · exact (own_block h1.out hq).2
    · exact (own_block (h1.inn i hi) hq).2)), own_base h2 hl.size, fun i hi q hq e => by
      have a1 := (own_block (h1.inn i hi) hq).2
      have a2 := (own_block h2 e).1
      omega, hl.trans (hb.mono hl.size)⟩
/-- The row is put behind. -/
theorem MM.put {v' : Value} (h : MM w N g vs n va vc L W) (ho : W1.ownsRow w.heap.size 26 1 v' (n.length + 1) (vs ++ [.slice va L.length vc])) (hg : W.grownBy W1 (some g)) :
    ORv w.heap.size w.heap.size W1 v' (vs ++ [.slice va L.length vc]) (n ++ [L]) ∧ Below w.heap.size w W1 := by
  have hget : ∀ i : Nat, i < n.length → (vs ++ [Value.slice va L.length vc])[i]! = vs[i]! := fun i hi => by
    rw [getElem!_pos _ i (by rw [List.length_append, h.o.len]; omega), getElem!_pos vs i (by rw [h.o.len]; exact hi), List.getElem_append_left (by rw [h.o.len]; exact hi)]
  have hgl : ∀ i : Nat, i < n.length → (n ++ [L])[i]! = n[i]! := fun i hi => by
    rw [getElem!_pos _ i (by rw [List.length_append]; omega), getElem!_pos n i hi, List.getElem_append_left hi]
  have hlast : (vs ++ [Value.slice va L.length vc])[n.length]! = .slice va L.length vc := by
    rw [getElem!_pos _ _ (by rw [List.length_append, h.o.len]; simp), List.getElem_append_right (by rw [h.o.len]; exact Nat.le_refl _)]; simp [h.o.len]
  have hll : (n ++ [L])[n.length]! = L := by
    rw [getElem!_pos _ _ (by simp), List.getElem_append_right (Nat.le_refl _)]; simp
  have hgo : (Value.slice (some ⟨g, 0, none⟩) N N).ownBlock = some g := rfl
  refine ⟨⟨by simp [h.o.len], by rw [List.length_append]; exact ho, fun i hi => ?_, fun i j hi hj hij q hq => ?_⟩, h.l.grown hg h.l.size (fun j hj => by cases hj; exact (own_block h.o.out hgo).1)⟩
  · rw [List.length_append, List.length_singleton] at hi
    rcases Nat.lt_or_ge i n.length with hi' | hi'
    · rw [hget i hi', hgl i hi']
      exact own_keep (h.o.inn i hi') (fun q hq => hg.block q (own_block (h.o.inn i hi') hq).2 (fun e => own_types (h.o.inn i hi') h.o.out (by decide) hq (hgo.trans e.symm)))
    · obtain rfl : i = n.length := by omega
      rw [hlast, hll]
      exact own_keep h.r (fun q hq => hg.block q (own_block h.r hq).2 (fun e => own_types h.r h.o.out (by decide) hq (hgo.trans e.symm)))
  · rw [List.length_append, List.length_singleton] at hi hj
    rcases Nat.lt_or_ge i n.length with hi' | hi'
    · rw [hget i hi'] at hq
      rcases Nat.lt_or_ge j n.length with hj' | hj'
      · rw [hget j hj']; exact h.o.dis i j hi' hj' hij q hq
      · obtain rfl : j = n.length := by omega
        rw [hlast]; exact h.d i hi' q hq
    · obtain rfl : i = n.length := by omega
      rw [hlast] at hq
      rw [hget j (by omega)]
      exact fun e => h.d j (by omega) q e hq
end
section
variable (w : World) (EA TA : Option Addr) (ec tc : Nat) (es : List Ev) (ts : List Ti)
set_option maxRecDepth 100000 in
set_option maxHeartbeats 8000000 in
theorem matters_of (h : FI w EA TA es ts) (hs : SmF es ts) :
    Calls Try.prog 33 #[FV EA TA es.length ec ts.length tc] w (InP w (reachN (netL es.length (needS es.length ts) ++ [inL es.length (pendS es ts)]) (es.length : Int))) := by
  obtain ⟨j0, hj0, hj1, hj2, hj3⟩ := info_parts info_row'
  have he := hs.e
  have HN := Lib.hid (fun (W : World) (hW : FI W EA TA es ts) => net_of W EA TA ec tc es ts hW hs)
  have HCL := Lib.hid (fun (W : World) (hW : FI W EA TA es ts) => called_of W EA TA ec tc es ts hW hs)
  have hnl := netL_len es.length (needS es.length ts)
  have HNL : Hid (∀ l ∈ netL es.length (needS es.length ts) ++ [inL es.length (pendS es ts)], l.length ≤ 100000) := Lib.hid (fun l hl => by
    rcases List.mem_append.1 hl with hl | hl
    · obtain ⟨a, _, rfl⟩ := List.mem_map.1 hl
      have := inL_len es.length (needS es.length ts a); omega
    · obtain rfl : l = _ := List.mem_singleton.1 hl
      have := inL_len es.length (pendS es ts); omega)
  generalize netL es.length (needS es.length ts) = n at *
  generalize inL es.length (pendS es ts) = L at *
  have hnl' : n.length ≤ es.length := by omega
  have hnl2 : es.length ≤ n.length := by omega
  clear hnl
  obtain ⟨W1, hW1⟩ : ∃ W1, W1 = w.alloc (.cells #[.slice EA es.length ec, .slice TA ts.length tc] 45) := ⟨_, rfl⟩
  have s1 : W1.heap.size = w.heap.size + 1 := by rw [hW1, World.size_alloc]
  have n1 : W1.heap[w.heap.size]? = some (.cells #[.slice EA es.length ec, .slice TA ts.length tc] 45 (0, 0)) := by rw [hW1]; exact heap_new _ _
  have hb1 : Below w.heap.size w W1.drew := by rw [hW1]; exact below_draws ((Below.refl _ w).alloc (Nat.le_refl _) _) 1
  have HF1 := Lib.hid (h.below hb1)
  have HB1 := Lib.hid hb1
  have hblk : ∀ W : World, Below W1.drew.heap.size W1.drew W → W.heap[w.heap.size]? = some (.cells #[.slice EA es.length ec, .slice TA ts.length tc] 45 (0, 0)) := fun W hW => (hW.block _ (by rw [World.size_drew, s1]; omega)).trans n1
  have hcell : ∀ W : World, W.heap[w.heap.size]? = some (.cells #[.slice EA es.length ec, .slice TA ts.length tc] 45 (0, 0)) → W.cell? ⟨w.heap.size, 0, none⟩ = some (.slice EA es.length ec) ∧ W.cell? ⟨w.heap.size, 1, none⟩ = some (.slice TA ts.length tc) := fun W h => ⟨cell_blk h rfl, cell_blk h rfl⟩
  have hbox : ∀ W : World, Below W1.drew.heap.size W1.drew W → (W.cell? ⟨w.heap.size, 0, none⟩ = some (.slice EA es.length ec) ∧ W.cell? ⟨w.heap.size, 1, none⟩ = some (.slice TA ts.length tc)) ∧ w.heap.size < W.heap.size := fun W hW => ⟨hcell W (hblk W hW), blk_lt (hblk W hW)⟩
  have HS0 := Lib.hid (hbox W1.drew (Below.refl _ _)).1
  have HBOX := Lib.hid hbox
  have HCELL := Lib.hid hcell
  have HBLK := Lib.hid hblk
  have HS1 := Lib.hid s1
  clear h hb1 n1 hbox hcell hblk s1
  go_enter Try.func33, Try.ntmps33
  go_wp2_with fail
  rw [← hW1]
  clear hW1
  refine wp_region_T (S := fun w' => w'.cell? ⟨w.heap.size, 0, none⟩ = some (.slice EA es.length ec) ∧ w'.cell? ⟨w.heap.size, 1, none⟩ = some (.slice TA ts.length tc)) (z := 5) (by kernel_rfl) ?_
  refine anyT_take (i := 0) 1 [0] (v := ?_) rfl (by kernel_rfl) (by kernel_rfl) (by kernel_rfl) (by kernel_rfl) (fun _ _ _ h => h) HS0.out (by rfl) ?_ ?_
  rotate_left
  · intro W hSw
    obtain ⟨q0, q1⟩ := hSw
    go_simp
    try with_reducible rfl
  simp only [Act.put, List.setIfInBounds_toArray, List.set_cons_zero, List.set_cons_succ, List.getElem_toArray, List.getElem_cons_zero]
  refine anyT_take (i := 2) 4 [3, 2] (v := ?_) rfl (by kernel_rfl) (by kernel_rfl) (by kernel_rfl) (by kernel_rfl) (fun _ _ _ h => h) HS0.out (by rfl) ?_ ?_
  rotate_left
  · intro W hSw
    obtain ⟨q0, q1⟩ := hSw
    go_simp
    try with_reducible rfl
  simp only [Act.put, List.setIfInBounds_toArray, List.set_cons_zero, List.set_cons_succ, List.getElem_toArray, List.getElem_cons_zero, List.getElem_cons_succ]
  refine anyT_one' (i := 1) (by kernel_rfl) rfl (by rfl) (fun K1 hK1 => ?_)
  have HK1 := Lib.hid hK1
  clear hK1
  unfold Oper.wp
  go_simp
  refine (HN.out W1.drew HF1.out).mono ?_
  rintro e w5 ⟨g, vs, rfl, hon, hbn⟩
  obtain ⟨hx5, hl5⟩ := HBOX.out w5 hbn
  have hbn' := HB1.out.trans (hbn.mono HB1.out.size)
  have hgg : w.heap.size + 1 ≤ g := by have := (own_block hon.out (g := g) rfl).1; rw [World.size_drew, HS1.out] at this; exact this
  have HF5 := Lib.hid (HF1.out.below hbn)
  refine HK1.out _ _ (fun _ => hx5) ?_
  refine anyT_one' (i := 3) (by kernel_rfl) rfl (by rfl) (fun K3 hK3 => ?_)
  have HK3 := Lib.hid hK3
  clear hK3
  unfold Oper.wp
  go_simp
  refine (HCL.out w5 HF5.out).mono ?_
  rintro e w7 ⟨vC, rfl, hoc, hbc⟩
  obtain ⟨va, vc, rfl⟩ := own_slice hoc
  have hMM : MM w es.length g vs n va vc L w7 := MM.made ⟨hon.len, own_base hon.out HB1.out.size, fun i hi => own_base (hon.inn i hi) HB1.out.size, hon.dis⟩ hbn' hoc hbc
  obtain ⟨hx7, hl7⟩ := HBOX.out w7 (hbn.trans (hbc.mono hbn.size))
  refine HK3.out _ _ (fun _ => hx7) ?_
  refine anyT_one' (i := 4) (by kernel_rfl) rfl (by rfl) (fun K4 hK4 => ?_)
  have HK4 := Lib.hid hK4
  clear hK4
  have hal : Below w7.heap.size w7 (w7.alloc (.cells #[.slice va L.length vc] 26)) := (Below.refl _ _).alloc (Nat.le_refl _) _
  have HMM := Lib.hid (hMM.call hal)
  have HNW := Lib.hid (World.news_of_block (cs := #[.slice va L.length vc]) (t := 26) (fr := (0, 0)) (heap_alloc_new w7 _))
  obtain ⟨hx8, hl8⟩ := HBOX.out _ ((hbn.trans (hbc.mono hbn.size)).trans (hal.mono (Nat.le_trans hbn.size hbc.size)))
  have HLX := Lib.hid hl8
  have HGG := Lib.hid hgg
  have HBX := Lib.hid (fun (W : World) (e : W.heap[w.heap.size]? = (w7.alloc (.cells #[.slice va L.length vc] 26)).heap[w.heap.size]?) => HCELL.out W (e.trans (HBLK.out _ ((hbn.trans (hbc.mono hbn.size)).trans (hal.mono (Nat.le_trans hbn.size hbc.size))))))
  unfold Oper.wp
  go_simp
  refine HK4.out _ _ (fun _ => hx8) ?_
  clear hx5 hx7 hx8 hl5 hl7 hl8 hMM hal hoc hbc hon hbn hbn' hgg HF5
  refine anyT_one' (i := 5) (by kernel_rfl) rfl (by rfl) (fun K5 hK5 => ?_)
  have HK5 := Lib.hid hK5
  clear hK5
  refine wp_append_lies _ (.tmp 5) (.tmp 8) 23 (by rfl) w.heap.size 26 j0 _ 1 24 Try.underlying23 hj0 hj1 hj2 hj3 rfl (by omega) (.slice (some ⟨g, 0, none⟩) es.length es.length) n.length vs (by rfl) HMM.out.o.out
    ⟨w7.heap.size, 0, none⟩ 1 1 [.slice va L.length vc] (by rfl) (by rfl) HNW.out (by simp [Value.oneCell']) (by omega) (by unfold maxLen; omega) (by omega) HMM.out.l.size _ rfl ?_
  intro gg cap w9 hown hgrow _ _
  obtain ⟨ho9, hb9⟩ := HMM.out.put hown hgrow
  have c90 : w9.cell? ⟨w.heap.size, 0, none⟩ = some (.slice EA es.length ec) ∧ w9.cell? ⟨w.heap.size, 1, none⟩ = some (.slice TA ts.length tc) := HBX.out w9 (hgrow.block _ HLX.out (fun e => by have h1 : w.heap.size = g := Option.some.inj e; have h2 := (own_block HMM.out.o.out (g := g) rfl).1; have h3 := HGG.out; omega))
  have C90 := Lib.hid c90
  have HO9 := Lib.hid ho9
  have HB9 := Lib.hid hb9
  clear hown hgrow ho9 hb9 c90 HMM HNW
  refine HK5.out _ _ (fun h => absurd rfl h) ?_
  refine anyT_one' (i := 6) (by kernel_rfl) rfl (by rfl) (fun K6 hK6 => ?_)
  have HK6 := Lib.hid hK6
  clear hK6
  unfold Oper.wp
  go_simp
  refine HK6.out _ _ (fun _ => C90.out) ?_
  refine anyT_done (by kernel_rfl) ?_ _
  clear HK6 HK5 HK1 HK3 HK4
  obtain ⟨A, c, rs, hv, hn, hi⟩ := HO9.out.net
  have hrl : rs.length = n.length + 1 := by rw [nt_len hn]; simp
  rw [hrl] at hv
  injection hv with hv1 _ hv2
  subst hv1 hv2
  have CR := reach_any w9 (some ⟨gg, 0, none⟩) cap rs (es.length : Int) hi (by omega) (nt_rows hn HNL.out)
  rw [hn, hrl] at CR
  have HCR := Lib.hid CR
  obtain ⟨x0, x1⟩ := C90.out
  clear CR hi hn HO9 C90
  go_wp2_with fail
  refine HCR.out.mono ?_
  rintro e w10 ⟨v, rfl, ho, hb⟩
  have HO := Lib.hid (own_base ho HB9.out.size)
  have HB := Lib.hid (HB9.out.trans (hb.mono HB9.out.size))
  clear ho hb HCR
  go_wp2_with fail
  go_ret
  refine ⟨v, rfl, ?_, HB.out⟩
  have := HO.out
  unfold reachN
  rw [List.length_map, ← iv_int]
  exact this
end
end Go.Proofs.Ytaagpnepkjkfoaa.N7
