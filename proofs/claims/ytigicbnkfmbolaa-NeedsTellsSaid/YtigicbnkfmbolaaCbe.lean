/-
  Contract of needs.Matters. The laws' awake and large of layer 7. What matters, plainly: it holds what may be called for, what blocks it, and what it calls for; with a tie more it is no less. The document's own answers of nets, plainly: what leads where over the first points, its rings, its order, its chains.
-/
import Derived.Test.YtigicbnkfmbolaaCbd
import Derived.Test.YtigicbnkfmbolaaCac
namespace Go.Proofs.Ytigicbnkfmbolaa.N7
open Go.RowKit Go.Shelf Go.Proofs.Ytigicbnkfmbolaa.B Go.Proofs.Ytigicbnkfmbolaa.R6
/-- The net, and what may be called for, both there. -/
structure MM (w : World) (N g : Nat) (vs : List Value) (n : NetL) (va : Option Addr) (vc : Nat) (L : List Int) (W : World) : Prop where
  o : ORv w.heap.size w.heap.size W (.slice (some ⟨g, 0, none⟩) N N) vs n
  r : W.ownsRow w.heap.size 3 1 (.slice va L.length vc) L.length (L.map (Value.int .i64))
  d : ∀ i : Nat, i < n.length → ∀ q, vs[i]!.ownBlock = some q → (Value.slice va L.length vc).ownBlock ≠ some q
  l : Below w.heap.size w W
section
variable {w W W1 : World} {N g vc : Nat} {vs : List Value} {n : NetL} {va : Option Addr} {L : List Int}
theorem MM.call (h : MM w N g vs n va vc L W) (hb : Below W.heap.size W W1) : MM w N g vs n va vc L W1 :=
  ⟨h.o.keep (fun q hq => hb.block q (by
    rcases hq with hq | ⟨i, hi, hq⟩
    · exact (own_block h.o.out hq).2
    · exact (own_block (h.o.inn i hi) hq).2)), own_below h.r hb, h.d, h.l.trans (hb.mono h.l.size)⟩
/-- The net first, then what may be called for. -/
theorem MM.made {w W W1 : World} (h1 : ORv w.heap.size w.heap.size W (.slice (some ⟨g, 0, none⟩) N N) vs n) (hl : Below w.heap.size w W) (h2 : W1.ownsRow W.heap.size 3 1 (.slice va L.length vc) L.length (L.map (Value.int .i64))) (hb : Below W.heap.size W W1) : MM w N g vs n va vc L W1 :=
  ⟨h1.keep (fun q hq => hb.block q (by
    rcases hq with hq | ⟨i, hi, hq⟩
    · exact (own_block h1.out hq).2
    · exact (own_block (h1.inn i hi) hq).2)), own_base h2 hl.size, fun i hi q hq e => by
      have a1 := (own_block (h1.inn i hi) hq).2
      have a2 := (own_block h2 e).1
      omega, hl.trans (hb.mono hl.size)⟩
/-- The row is put behind. -/
theorem MM.put {v' : Value} (h : MM w N g vs n va vc L W) (ho : W1.ownsRow w.heap.size 33 1 v' (n.length + 1) (vs ++ [.slice va L.length vc])) (hg : W.grownBy W1 (some g)) :
    ORv w.heap.size w.heap.size W1 v' (vs ++ [.slice va L.length vc]) (n ++ [L]) ∧ Below w.heap.size w W1 := by
  have hget : ∀ i : Nat, i < n.length → (vs ++ [Value.slice va L.length vc])[i]! = vs[i]! := fun i hi => by
    rw [getElem!_pos _ i (by rw [List.length_append, h.o.len]; omega), getElem!_pos vs i (by rw [h.o.len]; exact hi), List.getElem_append_left (by rw [h.o.len]; exact hi)]
  have hgl : ∀ i : Nat, i < n.length → (n ++ [L])[i]! = n[i]! := fun i hi => by
    rw [getElem!_pos _ i (by rw [List.length_append]; omega), getElem!_pos n i hi, List.getElem_append_left hi]
  have hlast : (vs ++ [Value.slice va L.length vc])[n.length]! = .slice va L.length vc := by
    rw [getElem!_pos _ _ (by rw [List.length_append, h.o.len]; simp), List.getElem_append_right (by rw [h.o.len]; exact Nat.le_refl _)]; simp [h.o.len]
  have hll : (n ++ [L])[n.length]! = L := by
    rw [getElem!_pos _ _ (by simp), List.getElem_append_right (Nat.le_refl _)]; simp
  have hgo : (Value.slice (some ⟨g, 0, none⟩) N N).ownBlock = some g := rfl
  refine ⟨⟨by simp [h.o.len], by rw [List.length_append]; exact ho, fun i hi => ?_, fun i j hi hj hij q hq => ?_⟩, h.l.grown hg h.l.size (fun j hj => by cases hj; exact (own_block h.o.out hgo).1)⟩
  · rw [List.length_append, List.length_singleton] at hi
    rcases Nat.lt_or_ge i n.length with hi' | hi'
    · rw [hget i hi', hgl i hi']
      exact own_keep (h.o.inn i hi') (fun q hq => hg.block q (own_block (h.o.inn i hi') hq).2 (fun e => own_types (h.o.inn i hi') h.o.out (by decide) hq (hgo.trans e.symm)))
    · obtain rfl : i = n.length := by omega
      rw [hlast, hll]
      exact own_keep h.r (fun q hq => hg.block q (own_block h.r hq).2 (fun e => own_types h.r h.o.out (by decide) hq (hgo.trans e.symm)))
  · rw [List.length_append, List.length_singleton] at hi hj
    rcases Nat.lt_or_ge i n.length with hi' | hi'
    · rw [hget i hi'] at hq
      rcases Nat.lt_or_ge j n.length with hj' | hj'
      · rw [hget j hj']; exact h.o.dis i j hi' hj' hij q hq
      · obtain rfl : j = n.length := by omega
        rw [hlast]; exact h.d i hi' q hq
    · obtain rfl : i = n.length := by omega
      rw [hlast] at hq
      rw [hget j (by omega)]
      exact fun e => h.d j (by omega) q e hq
end
section
variable (w : World) (EA TA : Option Addr) (ec tc : Nat) (es : List Ev) (ts : List Ti)
set_option maxRecDepth 100000 in
set_option maxHeartbeats 8000000 in
theorem matters_of (h : FI w EA TA es ts) (hs : SmF es ts) :
    Calls Try.prog 17 #[FV EA TA es.length ec ts.length tc] w (InP w (reachN (netL es.length (needS es.length ts) ++ [inL es.length (pendS es ts)]) (es.length : Int))) := by
  obtain ⟨j0, hj0, hj1, hj2, hj3⟩ := info_parts info_row'
  have he := hs.e
  have HN := Lib.hid (fun (W : World) (hW : FI W EA TA es ts) => net_of W EA TA ec tc es ts hW hs)
  have HCL := Lib.hid (fun (W : World) (hW : FI W EA TA es ts) => called_of W EA TA ec tc es ts hW hs)
  have hnl := netL_len es.length (needS es.length ts)
  have HNL : Hid (∀ l ∈ netL es.length (needS es.length ts) ++ [inL es.length (pendS es ts)], l.length ≤ 100000) := Lib.hid (fun l hl => by
    rcases List.mem_append.1 hl with hl | hl
    · obtain ⟨a, _, rfl⟩ := List.mem_map.1 hl
      have := inL_len es.length (needS es.length ts a); omega
    · obtain rfl : l = _ := List.mem_singleton.1 hl
      have := inL_len es.length (pendS es ts); omega)
  generalize netL es.length (needS es.length ts) = n at *
  generalize inL es.length (pendS es ts) = L at *
  have hnl' : n.length ≤ es.length := by omega
  have hnl2 : es.length ≤ n.length := by omega
  clear hnl
  obtain ⟨W1, hW1⟩ : ∃ W1, W1 = w.alloc (.cells #[.slice EA es.length ec, .slice TA ts.length tc] 25) := ⟨_, rfl⟩
  have s1 : W1.heap.size = w.heap.size + 1 := by rw [hW1, World.size_alloc]
  have n1 : W1.heap[w.heap.size]? = some (.cells #[.slice EA es.length ec, .slice TA ts.length tc] 25 (0, 0)) := by rw [hW1]; exact heap_new _ _
  have hb1 : Below w.heap.size w W1.drew := by rw [hW1]; exact below_draws ((Below.refl _ w).alloc (Nat.le_refl _) _) 1
  have HF1 := Lib.hid (h.below hb1)
  have HB1 := Lib.hid hb1
  have hblk : ∀ W : World, Below W1.drew.heap.size W1.drew W → W.heap[w.heap.size]? = some (.cells #[.slice EA es.length ec, .slice TA ts.length tc] 25 (0, 0)) := fun W hW => (hW.block _ (by rw [World.size_drew, s1]; omega)).trans n1
  have hcell : ∀ W : World, W.heap[w.heap.size]? = some (.cells #[.slice EA es.length ec, .slice TA ts.length tc] 25 (0, 0)) → W.cell? ⟨w.heap.size, 0, none⟩ = some (.slice EA es.length ec) ∧ W.cell? ⟨w.heap.size, 1, none⟩ = some (.slice TA ts.length tc) := fun W h => ⟨cell_blk h rfl, cell_blk h rfl⟩
  have hbox : ∀ W : World, Below W1.drew.heap.size W1.drew W → (W.cell? ⟨w.heap.size, 0, none⟩ = some (.slice EA es.length ec) ∧ W.cell? ⟨w.heap.size, 1, none⟩ = some (.slice TA ts.length tc)) ∧ w.heap.size < W.heap.size := fun W hW => ⟨hcell W (hblk W hW), blk_lt (hblk W hW)⟩
  have HS0 := Lib.hid (hbox W1.drew (Below.refl _ _)).1
  have HBOX := Lib.hid hbox
  have HCELL := Lib.hid hcell
  have HBLK := Lib.hid hblk
  have HS1 := Lib.hid s1
  clear h hb1 n1 hbox hcell hblk s1
  go_enter Try.func17, Try.ntmps17
  go_wp2_with fail
  rw [← hW1]
  clear hW1
  refine wp_region_T (S := fun w' => w'.cell? ⟨w.heap.size, 0, none⟩ = some (.slice EA es.length ec) ∧ w'.cell? ⟨w.heap.size, 1, none⟩ = some (.slice TA ts.length tc)) (z := 5) (by kernel_rfl) ?_
  refine anyT_take (i := 0) 1 [0] (v := ?_) rfl (by kernel_rfl) (by kernel_rfl) (by kernel_rfl) (by kernel_rfl) (fun _ _ _ h => h) HS0.out (by rfl) ?_ ?_
  rotate_left
  · intro W hSw
    obtain ⟨q0, q1⟩ := hSw
    go_simp
    try with_reducible rfl
  simp only [Act.put, List.setIfInBounds_toArray, List.set_cons_zero, List.set_cons_succ, List.getElem_toArray, List.getElem_cons_zero]
  refine anyT_take (i := 2) 4 [3, 2] (v := ?_) rfl (by kernel_rfl) (by kernel_rfl) (by kernel_rfl) (by kernel_rfl) (fun _ _ _ h => h) HS0.out (by rfl) ?_ ?_
  rotate_left
  · intro W hSw
    obtain ⟨q0, q1⟩ := hSw
    go_simp
    try with_reducible rfl
  simp only [Act.put, List.setIfInBounds_toArray, List.set_cons_zero, List.set_cons_succ, List.getElem_toArray, List.getElem_cons_zero, List.getElem_cons_succ]
  refine anyT_one' (i := 1) (by kernel_rfl) rfl (by rfl) (fun K1 hK1 => ?_)
  have HK1 := Lib.hid hK1
  clear hK1
  unfold Oper.wp
  go_simp
  refine (HN.out W1.drew HF1.out).mono ?_
  rintro e w5 ⟨g, vs, rfl, hon, hbn⟩
  obtain ⟨hx5, hl5⟩ := HBOX.out w5 hbn
  have hbn' := HB1.out.trans (hbn.mono HB1.out.size)
  have hgg : w.heap.size + 1 ≤ g := by have := (own_block hon.out (g := g) rfl).1; rw [World.size_drew, HS1.out] at this; exact this
  have HF5 := Lib.hid (HF1.out.below hbn)
  refine HK1.out _ _ (fun _ => hx5) ?_
  refine anyT_one' (i := 3) (by kernel_rfl) rfl (by rfl) (fun K3 hK3 => ?_)
  have HK3 := Lib.hid hK3
  clear hK3
  unfold Oper.wp
  go_simp
  refine (HCL.out w5 HF5.out).mono ?_
  rintro e w7 ⟨vC, rfl, hoc, hbc⟩
  obtain ⟨va, vc, rfl⟩ := own_slice hoc
  have hMM : MM w es.length g vs n va vc L w7 := MM.made ⟨hon.len, own_base hon.out HB1.out.size, fun i hi => own_base (hon.inn i hi) HB1.out.size, hon.dis⟩ hbn' hoc hbc
  obtain ⟨hx7, hl7⟩ := HBOX.out w7 (hbn.trans (hbc.mono hbn.size))
  refine HK3.out _ _ (fun _ => hx7) ?_
  refine anyT_one' (i := 4) (by kernel_rfl) rfl (by rfl) (fun K4 hK4 => ?_)
  have HK4 := Lib.hid hK4
  clear hK4
  have hal : Below w7.heap.size w7 (w7.alloc (.cells #[.slice va L.length vc] 33)) := (Below.refl _ _).alloc (Nat.le_refl _) _
  have HMM := Lib.hid (hMM.call hal)
  have HNW := Lib.hid (World.news_of_block (cs := #[.slice va L.length vc]) (t := 33) (fr := (0, 0)) (heap_alloc_new w7 _))
  obtain ⟨hx8, hl8⟩ := HBOX.out _ ((hbn.trans (hbc.mono hbn.size)).trans (hal.mono (Nat.le_trans hbn.size hbc.size)))
  have HLX := Lib.hid hl8
  have HGG := Lib.hid hgg
  have HBX := Lib.hid (fun (W : World) (e : W.heap[w.heap.size]? = (w7.alloc (.cells #[.slice va L.length vc] 33)).heap[w.heap.size]?) => HCELL.out W (e.trans (HBLK.out _ ((hbn.trans (hbc.mono hbn.size)).trans (hal.mono (Nat.le_trans hbn.size hbc.size))))))
  unfold Oper.wp
  go_simp
  refine HK4.out _ _ (fun _ => hx8) ?_
  clear hx5 hx7 hx8 hl5 hl7 hl8 hMM hal hoc hbc hon hbn hbn' hgg HF5
  refine anyT_one' (i := 5) (by kernel_rfl) rfl (by rfl) (fun K5 hK5 => ?_)
  have HK5 := Lib.hid hK5
  clear hK5
  refine wp_append_lies _ (.tmp 5) (.tmp 8) 38 (by rfl) w.heap.size 33 j0 _ 1 24 Try.underlying38 hj0 hj1 hj2 hj3 rfl (by omega) (.slice (some ⟨g, 0, none⟩) es.length es.length) n.length vs (by rfl) HMM.out.o.out
    ⟨w7.heap.size, 0, none⟩ 1 1 [.slice va L.length vc] (by rfl) (by rfl) HNW.out (by simp [Value.oneCell']) (by omega) (by unfold maxLen; omega) (by omega) HMM.out.l.size _ rfl ?_
  intro gg cap w9 hown hgrow _ _
  obtain ⟨ho9, hb9⟩ := HMM.out.put hown hgrow
  have c90 : w9.cell? ⟨w.heap.size, 0, none⟩ = some (.slice EA es.length ec) ∧ w9.cell? ⟨w.heap.size, 1, none⟩ = some (.slice TA ts.length tc) := HBX.out w9 (hgrow.block _ HLX.out (fun e => by have h1 : w.heap.size = g := Option.some.inj e; have h2 := (own_block HMM.out.o.out (g := g) rfl).1; have h3 := HGG.out; omega))
  have C90 := Lib.hid c90
  have HO9 := Lib.hid ho9
  have HB9 := Lib.hid hb9
  clear hown hgrow ho9 hb9 c90 HMM HNW
  refine HK5.out _ _ (fun h => absurd rfl h) ?_
  refine anyT_one' (i := 6) (by kernel_rfl) rfl (by rfl) (fun K6 hK6 => ?_)
  have HK6 := Lib.hid hK6
  clear hK6
  unfold Oper.wp
  go_simp
  refine HK6.out _ _ (fun _ => C90.out) ?_
  refine anyT_done (by kernel_rfl) ?_ _
  clear HK6 HK5 HK1 HK3 HK4
  obtain ⟨A, c, rs, hv, hn, hi⟩ := HO9.out.net
  have hrl : rs.length = n.length + 1 := by rw [nt_len hn]; simp
  rw [hrl] at hv
  injection hv with hv1 _ hv2
  subst hv1 hv2
  have CR := reach_any w9 (some ⟨gg, 0, none⟩) cap rs (es.length : Int) hi (by omega) (nt_rows hn HNL.out)
  rw [hn, hrl] at CR
  have HCR := Lib.hid CR
  obtain ⟨x0, x1⟩ := C90.out
  clear CR hi hn HO9 C90
  go_wp2_with fail
  refine HCR.out.mono ?_
  rintro e w10 ⟨v, rfl, ho, hb⟩
  have HO := Lib.hid (own_base ho HB9.out.size)
  have HB := Lib.hid (HB9.out.trans (hb.mono HB9.out.size))
  clear ho hb HCR
  go_wp2_with fail
  go_ret
  refine ⟨v, rfl, ?_, HB.out⟩
  have := HO.out
  unfold reachN
  rw [List.length_map, ← iv_int]
  exact this
end
end Go.Proofs.Ytigicbnkfmbolaa.N7

namespace Go.Proofs.Ytigicbnkfmbolaa.N7
open Go.RowKit Go.Shelf Go.Proofs.Ytigicbnkfmbolaa.B Go.Proofs.Ytigicbnkfmbolaa.R6
def noS : ByteArray := ⟨#[]⟩
def es0 : List Ev := [⟨noS, noS, noS, true, false, -1⟩, ⟨noS, noS, noS, true, false, 3⟩, ⟨noS, noS, noS, false, false, -1⟩]
def ts0 : List Ti := [⟨1, 0, 1, 4⟩, ⟨2, 1, 2, 0⟩, ⟨4, 2, 0, 0⟩]
theorem small0 : SmF es0 ts0 := ⟨by decide, by decide⟩
theorem aw_net0 : netL 3 (needS 3 ts0) = [[], [0, 2], []] := by kernel_rfl
theorem aw_blk0 : inL 3 (blkS 3 ts0 1) = [0] := by kernel_rfl
theorem aw_cal0 : inL 3 (clS 3 ts0 1) = [2] := by kernel_rfl
theorem aw_cld0 : inL 3 (pendS es0 ts0) = [1, 2] := by kernel_rfl
theorem aw_mat0 : reachN ([[], [0, 2], []] ++ [[1, 2]]) ((3 : Nat) : Int) = [0, 1, 2] := by kernel_rfl
theorem aw_exc0 : inL 3 (exclS es0 ts0) = [0, 2] := by kernel_rfl
theorem aw_del1 : delS 3 (ts0.filter (F4.intoB 1 1)) = 4 := by kernel_rfl
theorem aw_del0 : delS 3 (ts0.filter (F4.intoB 1 0)) = 0 := by kernel_rfl
abbrev fl0 (A B : Option Addr) : Value := .agg #[.slice A 3 3, .slice B 3 3]
/-- A row of the call's own is a row. -/
theorem inP_row {F : FuncId} {args : Array Value} {W : World} {L L' : List Int} (h : Calls Try.prog F args W (InP W L)) (e : L = L') : Calls Try.prog F args W fun e w' => ∃ a k, e = .returned (.slice a L'.length k) ∧ Row w' a (L'.map (Value.int .i64)) ∧ Below W.heap.size W w' := by
  subst e
  refine h.mono ?_
  rintro e w' ⟨v, rfl, ho, hb⟩
  obtain ⟨a, k, rfl⟩ := own_slice ho
  exact ⟨a, k, rfl, Row.of_own ho, hb⟩
/-- The fixed graph lies there. -/
structure AW (w W : World) : Prop where
  f : FI W (some ⟨w.heap.size, 0, none⟩) (some ⟨w.heap.size + 1, 0, none⟩) es0 ts0
  b : W.heap[w.heap.size + 1 + 1]? = some (.cells #[.slice (some ⟨w.heap.size, 0, none⟩) 3 3, .slice (some ⟨w.heap.size + 1, 0, none⟩) 3 3] 25 (0, 0))
  l : Below w.heap.size w W
theorem AW.call {w W W' : World} (h : AW w W) (hb : Below W.heap.size W W') : AW w W' := ⟨h.f.below hb, (hb.block _ (blk_lt h.b)).trans h.b, h.l.trans (hb.mono h.l.size)⟩
theorem AW.c0 {w W : World} (h : AW w W) : W.cell? ⟨w.heap.size + 1 + 1, 0, none⟩ = some (.slice (some ⟨w.heap.size, 0, none⟩) 3 3) ∧ W.cell? ⟨w.heap.size + 1 + 1, 1, none⟩ = some (.slice (some ⟨w.heap.size + 1, 0, none⟩) 3 3) := ⟨cell_blk h.b rfl, cell_blk h.b rfl⟩
theorem AW.start (w : World) : AW w (((w.alloc (.cells (es0.flatMap evC).toArray 47)).alloc (.cells (ts0.flatMap tiC).toArray 49)).alloc (.cells #[.slice (some ⟨w.heap.size, 0, none⟩) 3 3, .slice (some ⟨w.heap.size + 1, 0, none⟩) 3 3] 25)) := by
  have s1 : (w.alloc (.cells (es0.flatMap evC).toArray 47)).heap.size = w.heap.size + 1 := World.size_alloc _ _
  have s2 : ((w.alloc (.cells (es0.flatMap evC).toArray 47)).alloc (.cells (ts0.flatMap tiC).toArray 49)).heap.size = w.heap.size + 1 + 1 := by rw [World.size_alloc, s1]
  refine ⟨⟨row_blk (heap_old (by rw [s2]; omega) (heap_old (by rw [s1]; omega) (heap_new _ _))), row_blk (heap_old (by rw [s2]; omega) (by rw [← s1]; exact heap_new _ _))⟩, by rw [← s2]; exact heap_new _ _, (((Below.refl _ w).alloc (Nat.le_refl _) _).alloc (by rw [s1]; omega) _).alloc (by rw [s2]; omega) _⟩
def LgP (w : World) (es : List Ev) (ts : List Ti) (e : Ending) (w' : World) : Prop := ∃ b, e = .returned (.bool b) ∧ Below w.heap.size w w' ∧ (b = false → es.length ≤ 20 ∧ ts.length ≤ 150)
set_option maxHeartbeats 1000000 in
theorem large7 (w : World) (EA TA : Option Addr) (ec tc : Nat) (es : List Ev) (ts : List Ti) : Calls Try.prog 5 #[FV EA TA es.length ec ts.length tc] w (LgP w es ts) := by
  have hb : Below w.heap.size w (w.alloc (.cells #[.slice EA es.length ec, .slice TA ts.length tc] 25)) := (Below.refl _ _).alloc (Nat.le_refl _) _
  by_cases h1 : (es.length : Int) > 20
  · go_enter Try.func5, Try.ntmps5
    go_wp2_with fail
    go_ret
    exact ⟨true, rfl, hb, fun h => (by cases h)⟩
  · by_cases h2 : (ts.length : Int) > 150
    · go_enter Try.func5, Try.ntmps5
      go_wp2_with fail
      go_ret
      exact ⟨true, rfl, hb, fun h => (by cases h)⟩
    · have h3 : es.length ≤ 20 ∧ ts.length ≤ 150 := ⟨by omega, by omega⟩
      have H3 := Lib.hid h3
      clear h3
      go_enter Try.func5, Try.ntmps5
      go_wp2_with fail
      go_ret
      exact ⟨false, rfl, hb, fun _ => H3.out⟩
theorem aw_net (w W : World) (h : AW w W) : Calls Try.prog 13 #[fl0 (some ⟨w.heap.size, 0, none⟩) (some ⟨w.heap.size + 1, 0, none⟩)] W (NetP W 3 [[], [0, 2], []]) := by
  have := net_of W _ _ 3 3 es0 ts0 h.f small0
  rw [show netL es0.length (needS es0.length ts0) = [[], [0, 2], []] from aw_net0] at this
  exact this
set_option maxRecDepth 100000 in
set_option maxHeartbeats 8000000 in
theorem awake7 (w : World) : Calls Try.prog 4 #[] w fun e w' => e = .returned (.bool true) ∧ Below w.heap.size w w' := by
  have A0 := Lib.hid (AW.start w)
  go_enter Try.func4, Try.ntmps4
  go_wp2_with fail
  refine (aw_net w _ A0.out).mono ?_
  rintro e w1 ⟨g, vs, rfl, hor, hb⟩
  have A1 := Lib.hid (A0.out.call hb)
  obtain ⟨ra, rc, hv⟩ := own_slice (hor.inn 1 (by decide))
  have hcv : w1.cell? ⟨g, 1, none⟩ = some (.slice ra 2 rc) := (hor.out.cellAt 1 (by decide)).trans (by
    have h1 : (1 : Nat) < vs.length := by rw [hor.len]; decide
    rw [List.getElem?_eq_getElem h1, ← getElem!_pos vs 1 h1, hv]; rfl)
  have hrow : Row w1 ra (([0, 2] : List Int).map (Value.int .i64)) := by
    have := hor.inn 1 (by decide)
    rw [hv] at this
    exact Row.of_own this
  have hgl := (own_block hor.out (g := g) rfl).2
  have RR := Lib.hid hrow
  clear hor hv hb A0 hrow
  go_wp2_with fail
  have hal2 : Below w1.heap.size w1 (w1.alloc (.cells #[.int .i64 0, .int .i64 2] 3)) := (Below.refl _ _).alloc (Nat.le_refl _) _
  have SA2 := Lib.hid (A1.out.call hal2)
  have CS2 := Lib.hid (row_same (c := rc) (d := 2) (l := [0, 2]) (RR.out.below (Nat.le_refl _) hal2) (row_blk (heap_new w1 (.cells #[.int .i64 0, .int .i64 2] 3))) (by decide))
  clear A1 RR hal2
  refine CS2.out.mono ?_
  rintro e w2 ⟨rfl, hb⟩
  have A2 := Lib.hid (SA2.out.call hb)
  obtain ⟨x0, x1⟩ := A2.out.c0
  clear hb SA2 CS2
  go_wp2_with fail
  have CL2 := inP_row (blocks_of w2 _ _ 3 3 es0 ts0 A2.out.f small0 1) (L' := [0]) aw_blk0
  have HL2 := Lib.hid CL2
  clear CL2 x0 x1
  refine HL2.out.mono ?_
  rintro e w3 ⟨ra, rc, rfl, hrow, hb⟩
  have RR := Lib.hid hrow
  have A3 := Lib.hid (A2.out.call hb)
  clear hrow hb HL2 A2
  go_wp2_with fail
  have hal4 : Below w3.heap.size w3 (w3.alloc (.cells #[.int .i64 0] 3)) := (Below.refl _ _).alloc (Nat.le_refl _) _
  have SA4 := Lib.hid (A3.out.call hal4)
  have CS4 := Lib.hid (row_same (c := rc) (d := 1) (l := [0]) (RR.out.below (Nat.le_refl _) hal4) (row_blk (heap_new w3 (.cells #[.int .i64 0] 3))) (by decide))
  clear A3 RR hal4
  refine CS4.out.mono ?_
  rintro e w4 ⟨rfl, hb⟩
  have A4 := Lib.hid (SA4.out.call hb)
  obtain ⟨x0, x1⟩ := A4.out.c0
  clear hb SA4 CS4
  go_wp2_with fail
  have CL4 := inP_row (calls_of w4 _ _ 3 3 es0 ts0 A4.out.f small0 1) (L' := [2]) aw_cal0
  have HL4 := Lib.hid CL4
  clear CL4 x0 x1
  refine HL4.out.mono ?_
  rintro e w5 ⟨ra, rc, rfl, hrow, hb⟩
  have RR := Lib.hid hrow
  have A5 := Lib.hid (A4.out.call hb)
  clear hrow hb HL4 A4
  go_wp2_with fail
  have hal6 : Below w5.heap.size w5 (w5.alloc (.cells #[.int .i64 2] 3)) := (Below.refl _ _).alloc (Nat.le_refl _) _
  have SA6 := Lib.hid (A5.out.call hal6)
  have CS6 := Lib.hid (row_same (c := rc) (d := 1) (l := [2]) (RR.out.below (Nat.le_refl _) hal6) (row_blk (heap_new w5 (.cells #[.int .i64 2] 3))) (by decide))
  clear A5 RR hal6
  refine CS6.out.mono ?_
  rintro e w6 ⟨rfl, hb⟩
  have A6 := Lib.hid (SA6.out.call hb)
  obtain ⟨x0, x1⟩ := A6.out.c0
  clear hb SA6 CS6
  go_wp2_with fail
  have CL6 := inP_row (called_of w6 _ _ 3 3 es0 ts0 A6.out.f small0) (L' := [1, 2]) aw_cld0
  have HL6 := Lib.hid CL6
  clear CL6 x0 x1
  refine HL6.out.mono ?_
  rintro e w7 ⟨ra, rc, rfl, hrow, hb⟩
  have RR := Lib.hid hrow
  have A7 := Lib.hid (A6.out.call hb)
  clear hrow hb HL6 A6
  go_wp2_with fail
  have hal8 : Below w7.heap.size w7 (w7.alloc (.cells #[.int .i64 1, .int .i64 2] 3)) := (Below.refl _ _).alloc (Nat.le_refl _) _
  have SA8 := Lib.hid (A7.out.call hal8)
  have CS8 := Lib.hid (row_same (c := rc) (d := 2) (l := [1, 2]) (RR.out.below (Nat.le_refl _) hal8) (row_blk (heap_new w7 (.cells #[.int .i64 1, .int .i64 2] 3))) (by decide))
  clear A7 RR hal8
  refine CS8.out.mono ?_
  rintro e w8 ⟨rfl, hb⟩
  have A8 := Lib.hid (SA8.out.call hb)
  obtain ⟨x0, x1⟩ := A8.out.c0
  clear hb SA8 CS8
  go_wp2_with fail
  have CL8 := inP_row (matters_of w8 _ _ 3 3 es0 ts0 A8.out.f small0) (L' := [0, 1, 2]) (by show reachN (netL 3 (needS 3 ts0) ++ [inL 3 (pendS es0 ts0)]) ((3 : Nat) : Int) = _; rw [aw_net0, aw_cld0]; exact aw_mat0)
  have HL8 := Lib.hid CL8
  clear CL8 x0 x1
  refine HL8.out.mono ?_
  rintro e w9 ⟨ra, rc, rfl, hrow, hb⟩
  have RR := Lib.hid hrow
  have A9 := Lib.hid (A8.out.call hb)
  clear hrow hb HL8 A8
  go_wp2_with fail
  have hal10 : Below w9.heap.size w9 (w9.alloc (.cells #[.int .i64 0, .int .i64 1, .int .i64 2] 3)) := (Below.refl _ _).alloc (Nat.le_refl _) _
  have SA10 := Lib.hid (A9.out.call hal10)
  have CS10 := Lib.hid (row_same (c := rc) (d := 3) (l := [0, 1, 2]) (RR.out.below (Nat.le_refl _) hal10) (row_blk (heap_new w9 (.cells #[.int .i64 0, .int .i64 1, .int .i64 2] 3))) (by decide))
  clear A9 RR hal10
  refine CS10.out.mono ?_
  rintro e w10 ⟨rfl, hb⟩
  have A10 := Lib.hid (SA10.out.call hb)
  obtain ⟨x0, x1⟩ := A10.out.c0
  clear hb SA10 CS10
  go_wp2_with fail
  have CL10 := inP_row (excluded_of w10 _ _ 3 3 es0 ts0 A10.out.f small0) (L' := [0, 2]) aw_exc0
  have HL10 := Lib.hid CL10
  clear CL10 x0 x1
  refine HL10.out.mono ?_
  rintro e w11 ⟨ra, rc, rfl, hrow, hb⟩
  have RR := Lib.hid hrow
  have A11 := Lib.hid (A10.out.call hb)
  clear hrow hb HL10 A10
  go_wp2_with fail
  have hal12 : Below w11.heap.size w11 (w11.alloc (.cells #[.int .i64 0, .int .i64 2] 3)) := (Below.refl _ _).alloc (Nat.le_refl _) _
  have SA12 := Lib.hid (A11.out.call hal12)
  have CS12 := Lib.hid (row_same (c := rc) (d := 2) (l := [0, 2]) (RR.out.below (Nat.le_refl _) hal12) (row_blk (heap_new w11 (.cells #[.int .i64 0, .int .i64 2] 3))) (by decide))
  clear A11 RR hal12
  refine CS12.out.mono ?_
  rintro e w12 ⟨rfl, hb⟩
  have A12 := Lib.hid (SA12.out.call hb)
  obtain ⟨x0, x1⟩ := A12.out.c0
  clear hb SA12 CS12
  go_wp2_with fail
  have CL12 := delay_of w12 _ _ 3 3 es0 ts0 A12.out.f small0 1
  rw [show delS es0.length (ts0.filter (F4.intoB 1 1)) = 4 from aw_del1] at CL12
  have HL12 := Lib.hid CL12
  clear CL12 x0 x1
  refine HL12.out.mono ?_
  rintro e w13 ⟨rfl, hb⟩
  have A13 := Lib.hid (A12.out.call hb)
  obtain ⟨x0, x1⟩ := A13.out.c0
  clear hb HL12 A12
  go_wp2_with fail
  have CL13 := delay_of w13 _ _ 3 3 es0 ts0 A13.out.f small0 0
  rw [show delS es0.length (ts0.filter (F4.intoB 1 0)) = 0 from aw_del0] at CL13
  have HL13 := Lib.hid CL13
  clear CL13 x0 x1
  refine HL13.out.mono ?_
  rintro e w14 ⟨rfl, hb⟩
  have A14 := Lib.hid (A13.out.call hb)
  obtain ⟨x0, x1⟩ := A14.out.c0
  clear hb HL13 A13
  go_wp2_with fail
  go_ret
  exact ⟨rfl, A14.out.l⟩
end Go.Proofs.Ytigicbnkfmbolaa.N7

namespace Go.Proofs.Ytigicbnkfmbolaa.N7
open Go.RowKit Go.Shelf Go.Proofs.Ytigicbnkfmbolaa.B Go.Proofs.Ytigicbnkfmbolaa.R6
/-- The net of needs, and one point more that leads to all that may be called for. -/
def wholeN (es : List Ev) (ts : List Ti) : NetL := netL es.length (needS es.length ts) ++ [inL es.length (pendS es ts)]
def matL (es : List Ev) (ts : List Ti) : List Nat := reachL (wholeN es ts) es.length
theorem wholeN_len (es : List Ev) (ts : List Ti) : (wholeN es ts).length = es.length + 1 := by simp [wholeN, netL_len]
theorem whole_last (es : List Ev) (ts : List Ti) : (wholeN es ts)[es.length]! = inL es.length (pendS es ts) := by
  rw [getElem!_pos _ _ (by rw [wholeN_len]; omega)]
  unfold wholeN
  rw [List.getElem_append_right (by rw [netL_len]; exact Nat.le_refl _)]; simp [netL_len]
theorem whole_at {es : List Ev} {ts : List Ti} {a : Nat} (ha : a < es.length) : (wholeN es ts)[a]! = inL es.length (needS es.length ts a) := by
  rw [getElem!_pos _ _ (by rw [wholeN_len]; omega)]
  unfold wholeN
  rw [List.getElem_append_left (by rw [netL_len]; exact ha), ← getElem!_pos _ a (by rw [netL_len]; exact ha), netL_at ha]
theorem mat_is (es : List Ev) (ts : List Ti) : reachN (netL es.length (needS es.length ts) ++ [inL es.length (pendS es ts)]) (es.length : Int) = (matL es ts).map fun j : Nat => (j : Int) := by
  show reachN (wholeN es ts) _ = _
  unfold reachN reachI matL
  rw [if_pos (by unfold hasI; rw [wholeN_len, decide_eq_true (Int.natCast_nonneg _), decide_eq_true (by omega)]; rfl), Int.toNat_natCast]
theorem mat_mem {es : List Ev} {ts : List Ti} {j : Nat} : j ∈ matL es ts ↔ Ld (wholeN es ts) es.length j := reach_mem (by rw [wholeN_len]; omega)
theorem wy_last {es : List Ev} {ts : List Ti} {j : Nat} : j ∈ wy (wholeN es ts) es.length ↔ j < es.length ∧ pendS es ts j = true := by
  rw [wy_mem, whole_last, inL_mem, wholeN_len]
  constructor
  · rintro ⟨⟨i, h1, h2, h3⟩, _⟩
    obtain rfl : j = i := by omega
    exact ⟨h1, h2⟩
  · rintro ⟨h1, h2⟩; exact ⟨⟨j, h1, h2, rfl⟩, by omega⟩
theorem wy_at {es : List Ev} {ts : List Ti} {a j : Nat} (ha : a < es.length) : j ∈ wy (wholeN es ts) a ↔ j < es.length ∧ needS es.length ts a j = true := by
  rw [wy_mem, whole_at ha, inL_mem, wholeN_len]
  constructor
  · rintro ⟨⟨i, h1, h2, h3⟩, _⟩
    obtain rfl : j = i := by omega
    exact ⟨h1, h2⟩
  · rintro ⟨h1, h2⟩; exact ⟨⟨j, h1, h2, rfl⟩, by omega⟩
end Go.Proofs.Ytigicbnkfmbolaa.N7

namespace Go.Proofs.Ytigicbnkfmbolaa.R6
/-- Does a point lead to another one, over the first k points? -/
def wB (n : NetL) : Nat → Nat → Nat → Bool
  | 0, i, j => decide (j ∈ wy n i)
  | k + 1, i, j => wB n k i j || (wB n k i k && wB n k k j)
theorem wB_col (n : NetL) (k i : Nat) : wB n (k + 1) i k = wB n k i k := by
  show (wB n k i k || (wB n k i k && wB n k k k)) = _
  cases wB n k i k <;> simp
theorem wB_row (n : NetL) (k j : Nat) : wB n (k + 1) k j = wB n k k j := by
  show (wB n k k j || (wB n k k k && wB n k k j)) = _
  cases wB n k k j <;> simp
theorem wB_no {n : NetL} {k i : Nat} (h : wB n k i k = false) (j : Nat) : wB n (k + 1) i j = wB n k i j := by
  show (wB n k i j || (wB n k i k && wB n k k j)) = _
  rw [h]; simp
theorem wB_yes {n : NetL} {k i : Nat} (h : wB n k i k = true) (j : Nat) : wB n (k + 1) i j = (wB n k i j || wB n k k j) := by
  show (wB n k i j || (wB n k i k && wB n k k j)) = _
  rw [h]; simp
theorem wB_or {n : NetL} {k a b : Nat} : wB n (k + 1) a b = true ↔ wB n k a b = true ∨ (wB n k a k = true ∧ wB n k k b = true) := by
  show (wB n k a b || (wB n k a k && wB n k k b)) = true ↔ _
  rw [Bool.or_eq_true, Bool.and_eq_true]
theorem wB_ld {n : NetL} : ∀ {k a b : Nat}, wB n k a b = true → Ld n a b
  | 0, _, _, h => .one (of_decide_eq_true h)
  | k + 1, _, _, h => by
    rcases wB_or.1 h with h | ⟨h1, h2⟩
    · exact wB_ld h
    · exact (wB_ld h1).trans (wB_ld h2)
theorem wB_way {n : NetL} {a b : Nat} (h : b ∈ wy n a) : ∀ k : Nat, wB n k a b = true
  | 0 => decide_eq_true h
  | k + 1 => wB_or.2 (.inl (wB_way h k))
theorem wB_over {n : NetL} : ∀ (k a b c : Nat), b < k → wB n k a b = true → wB n k b c = true → wB n k a c = true
  | 0, _, _, _, h, _, _ => absurd h (Nat.not_lt_zero _)
  | k + 1, a, b, c, h, h1, h2 => by
    by_cases e : b = k
    · subst e
      rw [wB_col] at h1
      rw [wB_row] at h2
      exact wB_or.2 (.inr ⟨h1, h2⟩)
    · have hb : b < k := by omega
      rcases wB_or.1 h1 with g1 | ⟨g1, g2⟩ <;> rcases wB_or.1 h2 with g3 | ⟨g3, g4⟩
      · exact wB_or.2 (.inl (wB_over k a b c hb g1 g3))
      · exact wB_or.2 (.inr ⟨wB_over k a b k hb g1 g3, g4⟩)
      · exact wB_or.2 (.inr ⟨g1, wB_over k k b c hb g2 g3⟩)
      · exact wB_or.2 (.inr ⟨g1, g4⟩)
def tB (n : NetL) (i j : Nat) : Bool := wB n n.length i j
theorem tB_iff {n : NetL} {i j : Nat} : tB n i j = true ↔ Ld n i j := by
  refine ⟨wB_ld, fun h => ?_⟩
  unfold tB
  induction h with
  | one h => exact wB_way h _
  | more h _ ih => exact wB_over _ _ _ _ (wy_lt h) (wB_way h _) ih
/-- Where a chain of k ways ends. -/
def eB (n : NetL) : Nat → Nat → Bool
  | 0, _ => true
  | k + 1, x => (List.range n.length).any fun i => eB n k i && decide (x ∈ wy n i)
end Go.Proofs.Ytigicbnkfmbolaa.R6
