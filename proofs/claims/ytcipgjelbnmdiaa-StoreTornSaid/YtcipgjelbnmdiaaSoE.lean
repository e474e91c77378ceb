/-
  Contracts of store.Copy and store.Bytes.
-/
import Derived.Test.YtcipgjelbnmdiaaSoD
import Derived.Test.YtcipgjelbnmdiaaShelfS
namespace Go.Proofs.Ytcipgjelbnmdiaa.ST
open Go.RowKit Go.Shelf Go.Proofs.Ytcipgjelbnmdiaa.B
attribute [local go_sem] Oper.semAt_some

theorem flat_one_bk (L : List Bk) : ∀ u ∈ L.flatMap bc, u.oneCell' = true := by
  intro u hu
  obtain ⟨b, _, hb⟩ := List.mem_flatMap.1 hu
  exact bc_one b u hb
set_option maxHeartbeats 1000000 in
theorem clone_bk (w : World) (sb g c : Nat) (L : List Bk) (f : Fs) (h : SB w sb g c L f) :
    Calls Try.prog 58 #[.slice (some ⟨g, 0, none⟩) L.length c] w fun e w' => ∃ v, e = .returned v ∧ w'.ownsRow w.heap.size 100 32 v L.length (L.flatMap bc) ∧ Below w.heap.size w w' := by
  obtain ⟨i0, hi, hz0, hz1, hz2⟩ := info_parts info_bk3
  have HI := Lib.hid hi
  have HZ0 := Lib.hid hz0
  have HZ1 := Lib.hid hz1
  have HZ2 := Lib.hid hz2
  have q : ∀ (w : World) (a : Option Addr) (n c n' c' : Nat), (binOp .eql 93 (.slice a n c) (.slice none n' c')).run Try.prog w = .ok (.bool a.isNone) w := fun w a n c n' c' => Lib.run_eql_slice_nil w _ _ a n c n' c' Try.underlying93
  have HFL := Lib.hid (flat_len h.len)
  clear hi hz0 hz1 hz2
  have hg := h.ltg
  have hc' : ∀ j u, (L.flatMap bc)[j]? = some u → (w.alloc (.cells #[] 100)).cell? ((⟨g, 0, none⟩ : Addr).add j) = some u := by
    intro j u hu
    obtain ⟨ex, hx⟩ := h.row
    rw [Addr.add_mid, Nat.zero_add]
    refine (World.cell?_alloc_lt _ _ ⟨g, j, none⟩ hg).trans ?_
    rw [cell_of_row w g j _ _ _ hx]
    have hj : j < (L.flatMap bc).length := (List.getElem?_eq_some_iff.1 hu).1
    rw [List.getElem?_toArray, List.getElem?_append_left hj]
    exact hu
  have hc := Lib.hid hc'
  have H1 := Lib.hid (flat_one_bk L)
  have hfew := h.few.2
  clear hc' h
  go_enter Try.func58, Try.ntmps58
  go_wp2_with (at_builtin; refine wpList_append_own _ rfl (.tmp 5) (.tmp 6) 93 rfl w.heap.size 100 i0 _ 32 32 Try.underlying93 HI.out HZ0.out HZ1.out HZ2.out rfl (by omega) _ _ _ rfl (World.ownsRow_made w #[] 0 (Nat.le_refl _) (Nat.zero_le _) (by simp)) ⟨g, 0, none⟩ L.length c (L.flatMap bc) rfl HFL.out ?c1 H1.out ?c3 ?c4 ?c5 ?_)
  case c1 => exact hc.out
  case c3 => unfold maxLen; omega
  case c4 => omega
  case c5 => simp
  intro v' w1 hown hgrow _
  go_wp2
  go_ret
  exact ⟨v', rfl, by simpa using hown, ((Below.refl _ w).alloc (Nat.le_refl _) _).grown hgrow (by simp) (by intro k hk; simp [Value.ownBlock] at hk; omega)⟩
theorem own_row {w : World} {B n : Nat} {v : Value} {xs : List Value} (h : w.ownsRow B 100 32 v n xs) (hn : 1 ≤ n) : ∃ g c ex, v = .slice (some ⟨g, 0, none⟩) n c ∧ B ≤ g ∧ w.heap[g]? = some (.cells (xs ++ ex).toArray 100 (0, 0)) := by
  rcases h.2 with ⟨_, h0⟩ | ⟨g, cap, cur, hv, hg, hh, _, _, _, ht⟩
  · omega
  · refine ⟨g, cap, cur.toList.drop (n * 32), hv, hg, ?_⟩
    rw [← ht, List.take_append_drop]
    exact hh
/-- What a copy is. -/
def CopyP (L : List Bk) (f : Fs) (w : World) (e : Ending) (w' : World) : Prop := ∃ sb g c, e = .returned (pt sb) ∧ SB w' sb g c L f ∧ Below w.heap.size w w' ∧ w.heap.size ≤ sb ∧ w.heap.size ≤ g
set_option maxRecDepth 100000 in
set_option maxHeartbeats 1000000 in
theorem copy_any (w : World) (sb g c : Nat) (L : List Bk) (f : Fs) (h : SB w sb g c L f) : Calls Try.prog 42 #[pt sb] w fun e w' => CopyP L f w e w' := by
  obtain ⟨⟨is, wh, pr⟩, down, wr⟩ := f
  obtain ⟨c0, c1, c2, c3, c4, c5⟩ := h.cells
  simp only at c1 c2 c3 c4 c5
  have hl := h.lt
  have H := Lib.hid h
  have HX : Hid (SB (w.alloc (.cells (boC g L.length c ⟨⟨is, wh, pr⟩, down, wr⟩) 97)) sb g c L ⟨⟨is, wh, pr⟩, down, wr⟩) := Lib.hid (h.below ((Below.refl _ _).alloc (Nat.le_refl _) _))
  have CC := Lib.hid (clone_bk (w.alloc (.cells (boC g L.length c ⟨⟨is, wh, pr⟩, down, wr⟩) 97)) sb g c L _ HX.out)
  have HZ : Hid ((w.alloc (.cells (boC g L.length c ⟨⟨is, wh, pr⟩, down, wr⟩) 97)).heap[w.heap.size]? = some (.cells (boC g L.length c ⟨⟨is, wh, pr⟩, down, wr⟩) 97 (0, 0))) := Lib.hid (heap_alloc_last w _)
  have HB : Hid (Below w.heap.size w (w.alloc (.cells (boC g L.length c ⟨⟨is, wh, pr⟩, down, wr⟩) 97))) := Lib.hid ((Below.refl _ _).alloc (Nat.le_refl _) _)
  have hc0 := (World.cell?_alloc_lt w (.cells (boC g L.length c ⟨⟨is, wh, pr⟩, down, wr⟩) 97) ⟨sb, 0, none⟩ hl).trans c0
  have HC0 := Lib.hid hc0
  clear h hc0
  go_enter Try.func42, Try.ntmps42
  go_wp2_with fail
  refine CC.out.mono ?_
  rintro e w2 ⟨v, rfl, hown, hb⟩
  obtain ⟨g2, cp, ex, rfl, hg2, hx2⟩ := own_row hown H.out.few.1
  have hsz : w.heap.size + 1 ≤ w2.heap.size := by have := hb.size; rw [World.size_alloc] at this; exact this
  have hg3 : w.heap.size + 1 ≤ g2 := by rw [World.size_alloc] at hg2; exact hg2
  have hz2 := (hb.block w.heap.size (by rw [World.size_alloc]; omega)).trans HZ.out
  have HZ2 := Lib.hid hz2
  have f0 : w2.frozen? ⟨w.heap.size, 0, none⟩ = false := frozen_blk hz2
  have c0' : w2.cell? ⟨w.heap.size, 0, none⟩ = some (.slice (some ⟨g, 0, none⟩) L.length c) := cell_blk (i := 0) hz2 rfl
  have HX2 := Lib.hid hx2
  have HB2 : Hid (Below w.heap.size w w2) := Lib.hid (HB.out.trans (hb.mono (by rw [World.size_alloc]; omega)))
  clear hz2 hx2 hown hb HZ CC HB HX
  go_wp2_with fail
  go_ret
  refine ⟨w.heap.size, g2, cp, rfl, { box := ?_, row := ⟨ex, ?_⟩, len := H.out.len, few := H.out.few, wh := H.out.wh, pr := H.out.pr }, HB2.out.setCell (p := ⟨w.heap.size, 0, none⟩) (Nat.le_refl _) _, Nat.le_refl _, by omega⟩
  · exact blk_set (i := 0) HZ2.out
  · exact (blk_other (by omega)).trans HX2.out
set_option maxHeartbeats 1000000 in
set_option maxRecDepth 100000 in
/-- Write at a builder that has been used, of bytes that lie anywhere. -/
theorem bwrite_any (B b : Nat) (bs : List Value) (ad : Addr) (m c : Nat) (news : List Value) (w : World) (h : Lib.BuilderAt 106 5 B b (pt b) bs w)
    (hl : news.length = m) (hnews : ∀ j u, news[j]? = some u → w.cell? (ad.add j) = some u) (h1 : ∀ u ∈ news, u.oneCell' = true) (hlen : bs.length + m ≤ 140737488355328) (hBw : B ≤ w.heap.size) :
    Calls Try.prog 56 #[pt b, .slice (some ad) m c] w fun e w' => e = .returned (.tuple #[.int .i64 (m : Int), .nilIface]) ∧ Lib.BuilderAt 106 5 B b (pt b) (bs ++ news) w' ∧ Below B w w' := by
  have CC : Hid (Calls Try.prog 66 #[pt b] w fun e w' => e = .returned (.tuple #[]) ∧ w' = w) := Lib.hid (Any.Builder_copyCheck_used (ρ := S.lays165_ren) { S.lays165 with } S.Builder_Extra_165.toX72 b w h.cell0)
  obtain ⟨i0, hi, hz0, hz1, hz2⟩ := info_parts S.Builder_Extra_165.infoByte
  have HI := Lib.hid hi
  have HZ0 := Lib.hid hz0
  have HZ1 := Lib.hid hz1
  have HZ2 := Lib.hid hz2
  clear hi hz0 hz1 hz2
  obtain ⟨hB, v, hbk, hown, hne⟩ := h
  have c0 : w.cell? ⟨b, 0, none⟩ = some (pt b) := by rw [Lib.cell_of_heap hbk]; rfl
  have c1 : w.cell? ⟨b, 1, none⟩ = some v := by rw [Lib.cell_of_heap hbk]; rfl
  have HN := Lib.hid hnews
  have HO := Lib.hid hown
  have HL := Lib.hid hl
  have H1 := Lib.hid h1
  have HBK := Lib.hid hbk
  have HNE := Lib.hid hne
  clear hnews hown hl h1 hbk hne
  go_enter Try.func56, Try.ntmps56
  go_wp2_with fail
  refine CC.out.mono ?_
  rintro e w1 ⟨rfl, rfl⟩
  go_wp2_with (at_builtin; refine wpList_append_own _ rfl (.tmp 12) (.tmp 13) 103 rfl B 5 i0 (.int .u8 0) 1 1 Try.underlying103 HI.out HZ0.out HZ1.out HZ2.out rfl (by decide) _ _ _ rfl HO.out ad m c news rfl (by rw [HL.out]; omega) HN.out H1.out ?c3 ?c4 hBw ?_)
  case c3 => unfold maxLen; omega
  case c4 => omega
  intro v' w2 hown' hgrow _
  have hlt : b < w1.heap.size := blk_lt HBK.out
  have hb2 : w2.heap[b]? = some (.cells #[pt b, v] 106 (0, 0)) := (hgrow.block b hlt (fun e => HNE.out e.symm)).trans HBK.out
  have d0 : w2.cell? ⟨b, 0, none⟩ = some (pt b) := by rw [Lib.cell_of_heap hb2]; rfl
  have d1 : w2.cell? ⟨b, 1, none⟩ = some v := by rw [Lib.cell_of_heap hb2]; rfl
  have f1 : w2.frozen? ⟨b, 1, none⟩ = false := Lib.frozen_of_heap hb2 1
  obtain ⟨ao, cap, rfl⟩ := own_slice hown'
  have HO2 := Lib.hid hown'
  have HBF : Hid (Below B w1 (w2.setCell ⟨b, 1, none⟩ (.slice ao (bs.length + m) cap))) := Lib.hid (((Below.refl _ w1).grown hgrow hBw (fun k hk => (HO.out.lt k hk).1)).setCell (p := ⟨b, 1, none⟩) hB _)
  have HB2 := Lib.hid hb2
  clear hb2 hown' hgrow
  go_wp2_with fail
  go_ret2
  refine ⟨rfl, ?_, HBF.out⟩
  exact Lib.BuilderAt.put (T := 106) (e := 5) hB HB2.out (bs' := bs ++ news) (by simpa [HL.out] using HO2.out) (by decide)
end Go.Proofs.Ytcipgjelbnmdiaa.ST
