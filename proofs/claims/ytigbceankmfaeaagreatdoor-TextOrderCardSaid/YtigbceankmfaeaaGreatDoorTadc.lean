/-
  What the laws of text stand on. The walk of TextOrder: of every graph it answers true.
-/
import Derived.Test.YtigbceankmfaeaaGreatDoorTadb
import Derived.Test.YtigbceankmfaeaaGreatDoorTacj
import Derived.Test.YtigbceankmfaeaaGreatDoorTabe
import Derived.Test.YtigbceankmfaeaaGreatDoorTada
namespace Go.Proofs.YtigbceankmfaeaaGreatDoor.P3.L
open Go.RowKit Go.Shelf Go.Proofs.YtigbceankmfaeaaGreatDoor Go.Proofs.YtigbceankmfaeaaGreatDoor.P3 Go.Proofs.YtigbceankmfaeaaGreatDoor.P3.C
/-- What stands in the loop's slots and boxes is what was read so far. -/
structure FO (S : List UInt8) (k : Nat) (L p0 p1 p2 p3 : ByteArray) : Prop where
  ln : (foldO (S.take k)).ln = L.data.toList
  p0 : (foldO (S.take k)).p0 = p0.data.toList
  p1 : (foldO (S.take k)).p1 = p1.data.toList
  p2 : (foldO (S.take k)).p2 = p2.data.toList
  p3 : (foldO (S.take k)).p3 = p3.data.toList
theorem FO.size {S : List UInt8} {k : Nat} {L p0 p1 p2 p3 : ByteArray} (h : FO S k L p0 p1 p2 p3) (hk : k ≤ S.length) : L.size ≤ S.length ∧ p0.size + p1.size + p2.size + p3.size + L.size ≤ S.length := by
  have e := fold_len (S.take k)
  rw [List.length_take] at e
  unfold lenO at e
  rw [h.ln, h.p0, h.p1, h.p2, h.p3] at e
  simp only [Array.length_toList] at e
  have a : ∀ x : ByteArray, x.size = x.data.size := fun _ => rfl
  rw [a, a, a, a, a]
  omega
theorem app_list (a b : ByteArray) : (a ++ b).data.toList = a.data.toList ++ b.data.toList := by rw [ByteArray.data_append, Array.toList_append]
theorem FO.add {s : ByteArray} {S : List UInt8} (hs : s.data.toList = S) {k : Nat} (hk : k < s.size) : k < S.length ∧ ∀ h : k < S.length, S[k] = s[k] := by
  subst hs
  exact ⟨by rw [Array.length_toList]; exact hk, fun _ => rfl⟩
theorem ext_one (s : ByteArray) (k : Nat) (hk : k < s.size) : (s.extract k (k + 1)).data.toList = [s[k]] := by
  rw [Lib.extract_data, Nat.add_sub_cancel_left]
  have h : k < s.data.toList.length := by rw [Array.length_toList]; exact hk
  rw [List.drop_eq_getElem_cons h]
  rfl
theorem FO.more {S : List UInt8} {s : ByteArray} {k : Nat} {L p0 p1 p2 p3 : ByteArray} (h : FO S k L p0 p1 p2 p3) (hs : s.data.toList = S) (hk : k < s.size) (hc : ¬ s[k] = 10) : FO S (k + 1) (L ++ s.extract k (k + 1)) p0 p1 p2 p3 := by
  obtain ⟨hk', he⟩ := FO.add hs hk
  have e := fold_next S k hk'
  rw [he hk', stepO, if_neg hc] at e
  refine ⟨?_, ?_, ?_, ?_, ?_⟩ <;> rw [e]
  · show (foldO (S.take k)).ln ++ [s[k]] = _
    rw [app_list, ext_one s k hk, h.ln]
  · exact h.p0
  · exact h.p1
  · exact h.p2
  · exact h.p3
theorem FO.begun {S : List UInt8} {s : ByteArray} {k : Nat} {L p0 p1 p2 p3 : ByteArray} (h : FO S k L p0 p1 p2 p3) (hs : s.data.toList = S) (ho : okO S 0 = true) (hk : k < s.size) (hc : s[k] = 10) : 1 ≤ L.size := by
  obtain ⟨hk', he⟩ := FO.add hs hk
  have := ok_line ho hk' ((he hk').trans hc)
  rw [h.ln, Array.length_toList] at this
  exact this
theorem FO.turn {S : List UInt8} {s : ByteArray} {k : Nat} {L p0 p1 p2 p3 : ByteArray} (h : FO S k L p0 p1 p2 p3) (hs : s.data.toList = S) (hk : k < s.size) (hc : s[k] = 10) {K : Nat} (hK : kindB (L ++ s.extract k (k + 1)).data.toList = K) :
    FO S (k + 1) ⟨#[]⟩ (if K = 0 then p0 ++ (L ++ s.extract k (k + 1)) else p0) (if K = 0 then p1 else if K = 1 then p1 ++ (L ++ s.extract k (k + 1)) else p1) (if K = 0 then p2 else if K = 1 then p2 else if K = 2 then p2 ++ (L ++ s.extract k (k + 1)) else p2) (if K = 0 then p3 else if K = 1 then p3 else if K = 2 then p3 else p3 ++ (L ++ s.extract k (k + 1))) := by
  obtain ⟨hk', he⟩ := FO.add hs hk
  have e := fold_next S k hk'
  have hM : (foldO (S.take k)).ln ++ [s[k]] = (L ++ s.extract k (k + 1)).data.toList := by rw [app_list, ext_one s k hk, h.ln]
  rw [he hk', stepO, if_pos hc, hM, hK] at e
  generalize L ++ s.extract k (k + 1) = M at *
  unfold addK at e
  by_cases h0 : K = 0
  · simp only [if_pos h0] at e ⊢
    refine ⟨?_, ?_, ?_, ?_, ?_⟩ <;> rw [e]
    · show _ ++ _ = _; rw [app_list, ← h.p0]
    · exact h.p1
    · exact h.p2
    · exact h.p3
  · simp only [if_neg h0] at e ⊢
    by_cases h1 : K = 1
    · simp only [if_pos h1] at e ⊢
      refine ⟨?_, ?_, ?_, ?_, ?_⟩ <;> rw [e]
      · exact h.p0
      · show _ ++ _ = _; rw [app_list, ← h.p1]
      · exact h.p2
      · exact h.p3
    · simp only [if_neg h1] at e ⊢
      by_cases h2 : K = 2
      · simp only [if_pos h2] at e ⊢
        refine ⟨?_, ?_, ?_, ?_, ?_⟩ <;> rw [e]
        · exact h.p0
        · exact h.p1
        · show _ ++ _ = _; rw [app_list, ← h.p2]
        · exact h.p3
      · simp only [if_neg h2] at e ⊢
        refine ⟨?_, ?_, ?_, ?_, ?_⟩ <;> rw [e]
        · exact h.p0
        · exact h.p1
        · exact h.p2
        · show _ ++ _ = _; rw [app_list, ← h.p3]
theorem kind_tests (M : ByteArray) (h : 0 < M.size) : ∃ b0 b1 b2 : Bool, ((M[0].toNat : Int) == 103) = b0 ∧ ((M[0].toNat : Int) == 117) = b1 ∧ ((M.extract 0 2).toList == [101, 118]) = b2 ∧
    kindB M.data.toList = (if b2 then 1 else if b0 then 0 else if b1 then 3 else 2) ∧ (b2 = true → b0 = false ∧ b1 = false) ∧ (b0 = true → b1 = false) := by
  refine ⟨_, _, _, rfl, rfl, rfl, ?_, ?_, ?_⟩
  all_goals
    have e : M.data.toList = M[0] :: M.data.toList.tail := Lx.bytes_cons h
    have e2 : (M.extract 0 2).toList = M.data.toList.take 2 := by rw [Lib.toList_data, Lib.extract_data]; rfl
    try rw [e2]
    clear e2
    generalize M[0] = c at *
    generalize M.data.toList.tail = r at *
    try rw [e]
    clear e h
    have i0 : ∀ n : UInt8, (((c.toNat : Int) == (n.toNat : Int)) = true) ↔ c = n := fun n => by
      rw [beq_iff_eq]
      exact ⟨fun h => UInt8.toNat_inj.1 (by omega), fun h => by rw [h]⟩
    have j0 := i0 103
    have j1 := i0 117
    change ((c.toNat : Int) == (103 : Int)) = true ↔ _ at j0
    change ((c.toNat : Int) == (117 : Int)) = true ↔ _ at j1
  · unfold kindB
    simp only [List.head?_cons, Option.some.injEq, ← j0, ← j1, beq_iff_eq]
  · intro hb
    have hc : c = 101 := by
      have := eq_of_beq hb
      cases r with
      | nil => exact (List.cons.inj this).1
      | cons d r => exact (List.cons.inj this).1
    subst hc
    exact ⟨rfl, rfl⟩
  · intro hb
    have := j0.1 hb
    subst this
    rfl
theorem LG.ofO {w : World} {g h : Gr} (x : LG w (partsO g) h) : LG w (partsV g) h :=
  ⟨x.lies, x.small, x.cap, x.nil, x.gs.trans (congrArg Gr.gs (gr_O g)), x.es.trans (congrArg Gr.es (gr_O g)), x.rs.trans (congrArg Gr.rs (gr_O g)), x.us.trans (congrArg Gr.us (gr_O g))⟩
def OrdRel (S : List UInt8) (w0 : World) (ln i : Value) (wr : World) : Prop :=
  ∃ (k : Nat) (L p0 p1 p2 p3 : ByteArray), k ≤ S.length ∧ ln = .string L ∧ i = .int .i64 k ∧ Hid (wr.heap[w0.heap.size]? = some (.cells #[.string p0, .string p1, .string p2, .string p3] 41 (0, 0))) ∧ Hid (Below w0.heap.size w0 wr) ∧ Hid (FO S k L p0 p1 p2 p3)
theorem fo_start (S : List UInt8) : FO S 0 ⟨#[]⟩ ⟨#[]⟩ ⟨#[]⟩ ⟨#[]⟩ ⟨#[]⟩ := ⟨rfl, rfl, rfl, rfl, rfl⟩
set_option maxRecDepth 100000 in
set_option maxHeartbeats 8000000 in
theorem order_walk (w : World) (g : Gr) (hI : InG w g) (hz : SzG g) (hcap : ∀ u ∈ g.us, u.roles.length ≤ u.rc) (hnil : ∀ u ∈ g.us, u.ra = none → u.rc = 0) (ht : Tab w.heap.size w) :
    Calls Tryz.prog 7 #[.agg #[.slice g.ga g.gs.length g.gc, .slice g.ea g.es.length g.ec, .slice g.ra g.rs.length g.rc, .slice g.ua g.us.length g.uc]] w fun e w' => e = .returned (.bool true) ∧ Below w.heap.size w w' := by
  have HB := Lib.hid (GB.new g (Below.refl w.heap.size w))
  have HI := Lib.hid hI
  have HZ := Lib.hid hz
  have HC := Lib.hid hcap
  have HN := Lib.hid hnil
  have HT := Lib.hid ht
  clear hI hz hcap hnil ht
  go_enter Tryz.func7, Tryz.ntmps7
  go_wp2_with fail
  refine (awake_any _ (tab_on HT.out HB.out.old)).mono ?_
  rintro e w1 ⟨rfl, hb1⟩
  have HB1 := Lib.hid (HB.out.call hb1)
  obtain ⟨c0, c1, c2, c3, l1⟩ := HB1.out.cells
  clear hb1 HB
  go_wp2_with fail
  refine (large_any w1 g (HI.out.below (Nat.le_refl _) HB1.out.old) HZ.out).mono ?_
  rintro e w2 ⟨lb, rfl, hsm, hb2⟩
  have HB2 := Lib.hid (HB1.out.call hb2)
  clear hb2 HB1 c0 c1 c2 c3 l1 hsm
  cases lb
  case true =>
    go_wp2_with fail
    go_ret
    exact ⟨rfl, HB2.out.old⟩
  case false =>
    obtain ⟨c0, c1, c2, c3, l1⟩ := HB2.out.cells
    go_wp2_with fail
    refine (print_any w2 g (HI.out.below (Nat.le_refl _) HB2.out.old) HZ.out HC.out HN.out (tab_on HT.out HB2.out.old)).mono ?_
    rintro e w3 ⟨hb3, h3⟩
    have HB3 := Lib.hid (HB2.out.call hb3)
    clear hb3 HB2 c0 c1 c2 c3 l1
    by_cases hc : (checkL g).2.2 = 0
    · rw [if_pos hc] at h3
      subst h3
      have hm : mayL g = true := by unfold mayL; rw [hc]; rfl
      have HM := Lib.hid hm
      have hS : (joinS true (printT g)).length ≤ 69080 := (may_ok hm).bytes
      have hF : foldO (joinS true (printT g)) = ⟨linesF (g.gs.map gpW), linesF (g.es.map evW), linesF (g.rs.map rlW), linesF (g.us.map usW), []⟩ := by rw [print_join (may_ok hm).names]; exact print_fold (may_ok hm)
      have hO : okO (joinS true (printT g)) 0 = true := by rw [print_join (may_ok hm).names]; exact print_okO (may_ok hm)
      have HF := Lib.hid hF
      have HO := Lib.hid hO
      clear hF hO hc hm
      generalize joinS true (printT g) = S at *
      obtain ⟨s, hs⟩ : ∃ s : ByteArray, s = ⟨S.toArray⟩ := ⟨_, rfl⟩
      rw [show sb S = .string s from by rw [hs]]
      have hsl : s.data.toList = S := by rw [hs]
      have hsz : s.size = S.length := by rw [hs]; exact List.size_toArray ..
      have HSL := Lib.hid hsl
      clear hs hsl
      rw [← hsz] at hS
      have HSZ := Lib.hid hsz
      clear hsz
      go_wp2_with fail
      go_loopw [6, 26] (fun ln i wr => OrdRel S w3 ln i wr) (fun _ i _ => S.length - (intOf i).toNat)
      case atStart => exact ⟨0, ⟨#[]⟩, ⟨#[]⟩, ⟨#[]⟩, ⟨#[]⟩, ⟨#[]⟩, Nat.zero_le _, rfl, rfl, Lib.hid (B.heap_new _ _), Lib.hid ((Below.refl _ _).alloc (Nat.le_refl _) _), Lib.hid (fo_start S)⟩
      case round =>
        obtain ⟨k, L, p0, p1, p2, p3, hk, rfl, rfl, HX, HL, HFO⟩ := hrel
        obtain ⟨hL1, hL2⟩ := HFO.out.size hk
        rw [← HSZ.out] at hk hL1 hL2
        by_cases hlt : k < s.size
        · by_cases hten : s[k] = 10
          · have hnt : ((s[k].toNat : Int) != 10) = false := by rw [hten]; rfl
            have h1 : 1 ≤ L.size := HFO.out.begun HSL.out HO.out hlt hten
            obtain ⟨b0, b1, b2, q0, q1, q2, hK, r1, r2⟩ := kind_tests (L ++ s.extract k (k + 1)) (by rw [ByteArray.size_append]; omega)
            have hK := Lib.hid hK
            rcases b2 with _ | _
            rcases b0 with _ | _
            rcases b1 with _ | _
            · have HK := Lib.hid (HFO.out.turn HSL.out hlt hten (K := 2) hK.out)
              have HX' : Hid ((wr.setCell ⟨w3.heap.size, 2, none⟩ (.string (p2 ++ (L ++ s.extract k (k + 1))))).heap[w3.heap.size]? = some (.cells #[.string p0, .string p1, .string (p2 ++ (L ++ s.extract k (k + 1))), .string p3] 41 (0, 0))) := Lib.hid (B.blk_set HX.out)
              have HL' := Lib.hid (HL.out.setCell (p := ⟨w3.heap.size, 2, none⟩) (Nat.le_refl _) (.string (p2 ++ (L ++ s.extract k (k + 1)))))
              have x0 := B.cell_blk (i := 2) HX.out rfl
              have x1 := B.frozen_blk (i := 2) HX.out
              have x2 := B.blk_lt HX.out
              clear hten
              go_wp2_with fail
              go_roundw
              case rel => exact ⟨k + 1, ⟨#[]⟩, p0, p1, p2 ++ (L ++ s.extract k (k + 1)), p3, by rw [← HSZ.out]; exact hlt, by go_num, by go_num, HX', HL', HK⟩
              case measure => simp [intOf]; have := HSZ.out; omega
            · have HK := Lib.hid (HFO.out.turn HSL.out hlt hten (K := 3) hK.out)
              have HX' : Hid ((wr.setCell ⟨w3.heap.size, 3, none⟩ (.string (p3 ++ (L ++ s.extract k (k + 1))))).heap[w3.heap.size]? = some (.cells #[.string p0, .string p1, .string p2, .string (p3 ++ (L ++ s.extract k (k + 1)))] 41 (0, 0))) := Lib.hid (B.blk_set HX.out)
              have HL' := Lib.hid (HL.out.setCell (p := ⟨w3.heap.size, 3, none⟩) (Nat.le_refl _) (.string (p3 ++ (L ++ s.extract k (k + 1)))))
              have x0 := B.cell_blk (i := 3) HX.out rfl
              have x1 := B.frozen_blk (i := 3) HX.out
              have x2 := B.blk_lt HX.out
              clear hten
              go_wp2_with fail
              go_roundw
              case rel => exact ⟨k + 1, ⟨#[]⟩, p0, p1, p2, p3 ++ (L ++ s.extract k (k + 1)), by rw [← HSZ.out]; exact hlt, by go_num, by go_num, HX', HL', HK⟩
              case measure => simp [intOf]; have := HSZ.out; omega
            · obtain rfl := r2 rfl
              have HK := Lib.hid (HFO.out.turn HSL.out hlt hten (K := 0) hK.out)
              have HX' : Hid ((wr.setCell ⟨w3.heap.size, 0, none⟩ (.string (p0 ++ (L ++ s.extract k (k + 1))))).heap[w3.heap.size]? = some (.cells #[.string (p0 ++ (L ++ s.extract k (k + 1))), .string p1, .string p2, .string p3] 41 (0, 0))) := Lib.hid (B.blk_set HX.out)
              have HL' := Lib.hid (HL.out.setCell (p := ⟨w3.heap.size, 0, none⟩) (Nat.le_refl _) (.string (p0 ++ (L ++ s.extract k (k + 1)))))
              have x0 := B.cell_blk (i := 0) HX.out rfl
              have x1 := B.frozen_blk (i := 0) HX.out
              have x2 := B.blk_lt HX.out
              clear hten
              go_wp2_with fail
              go_roundw
              case rel => exact ⟨k + 1, ⟨#[]⟩, p0 ++ (L ++ s.extract k (k + 1)), p1, p2, p3, by rw [← HSZ.out]; exact hlt, by go_num, by go_num, HX', HL', HK⟩
              case measure => simp [intOf]; have := HSZ.out; omega
            · obtain ⟨rfl, rfl⟩ := r1 rfl
              have HK := Lib.hid (HFO.out.turn HSL.out hlt hten (K := 1) hK.out)
              have HX' : Hid ((wr.setCell ⟨w3.heap.size, 1, none⟩ (.string (p1 ++ (L ++ s.extract k (k + 1))))).heap[w3.heap.size]? = some (.cells #[.string p0, .string (p1 ++ (L ++ s.extract k (k + 1))), .string p2, .string p3] 41 (0, 0))) := Lib.hid (B.blk_set HX.out)
              have HL' := Lib.hid (HL.out.setCell (p := ⟨w3.heap.size, 1, none⟩) (Nat.le_refl _) (.string (p1 ++ (L ++ s.extract k (k + 1)))))
              have x0 := B.cell_blk (i := 1) HX.out rfl
              have x1 := B.frozen_blk (i := 1) HX.out
              have x2 := B.blk_lt HX.out
              clear hten
              go_wp2_with fail
              go_roundw
              case rel => exact ⟨k + 1, ⟨#[]⟩, p0, p1 ++ (L ++ s.extract k (k + 1)), p2, p3, by rw [← HSZ.out]; exact hlt, by go_num, by go_num, HX', HL', HK⟩
              case measure => simp [intOf]; have := HSZ.out; omega
          · have hnt : ((s[k].toNat : Int) != 10) = true := by
              rw [bne_iff_ne]; intro h; apply hten; apply UInt8.toNat_inj.1; show s[k].toNat = 10; omega
            have HN' := Lib.hid (HFO.out.more HSL.out hlt hten)
            clear hten
            go_wp2_with fail
            go_roundw
            case rel => exact ⟨k + 1, L ++ s.extract k (k + 1), p0, p1, p2, p3, by rw [← HSZ.out]; exact hlt, by go_num, by go_num, HX, HL, HN'⟩
            case measure => simp [intOf]; have := HSZ.out; omega
        · have hk' : S.take k = S := List.take_of_length_le (by have := HSZ.out; omega)
          obtain ⟨_, g0, g1, g2, g3⟩ := HFO.out
          rw [hk', HF.out] at g0 g1 g2 g3
          simp only at g0 g1 g2 g3
          have hT : (p3 ++ p2 ++ p1 ++ p0).data.toList = (linesO g).flatMap (fun l => lineB (l.map (·.2.1))) := by
            rw [order_text, app_list, app_list, app_list, ← g0, ← g1, ← g2, ← g3]
          have HP := Lib.hid (show parseL (p3 ++ p2 ++ p1 ++ p0).data.toList = (partsO g, 0, 0) by rw [hT]; exact parse_ok.1 (parse_O HM.out))
          have hZ : (p3 ++ p2 ++ p1 ++ p0).size ≤ 140737488351232 := by rw [ByteArray.size_append, ByteArray.size_append, ByteArray.size_append]; omega
          have HW := Lib.hid hZ
          have x0 := B.cell_blk (i := 0) HX.out rfl
          have x1 := B.cell_blk (i := 1) HX.out rfl
          have x2 := B.cell_blk (i := 2) HX.out rfl
          have x3 := B.cell_blk (i := 3) HX.out rfl
          have x4 := B.blk_lt HX.out
          have HGr := Lib.hid (HB3.out.call HL.out)
          clear hk' g0 g1 g2 g3 hT hZ HFO HX HL
          go_wp2_with fail
          refine (parse_word (p3 ++ p2 ++ p1 ++ p0) _ HW.out (partsO g) HP.out).mono ?_
          rintro e w4 ⟨h, rfl, hb4, hh4⟩
          have HG4 := Lib.hid ((HGr.out.call hb4).alloc (gbox h))
          have HH4 := Lib.hid (GB.new h (HGr.out.old.trans (hb4.mono HGr.out.old.size)))
          have HK4 := Lib.hid (hh4.ofO.alloc (gbox h))
          clear hb4 hh4 HGr x0 x1 x2 x3 x4
          obtain ⟨c0, c1, c2, c3, l2⟩ := HG4.out.cells
          obtain ⟨d0, d1, d2, d3, m2⟩ := HH4.out.cells
          go_wp2_with fail
          refine (refsame_any _ g h (HI.out.below (Nat.le_refl _) HG4.out.old) HK4.out.lies HZ.out).mono ?_
          rintro e w5 ⟨rfl, hb5⟩
          rw [same_self HK4.out.back.1 HK4.out.back.2.1 HK4.out.back.2.2.1 HK4.out.back.2.2.2]
          have HB5 := Lib.hid (HG4.out.call hb5).old
          clear hb5
          go_wp2_with fail
          go_ret
          exact ⟨rfl, HB5.out⟩
    · rw [if_neg hc] at h3
      subst h3
      have hne : (((checkL g).2.2 : Int) != 0) = true := by rw [bne_iff_ne]; omega
      clear hc
      generalize ((checkL g).2.2 : Int) = cc at *
      go_wp2_with fail
      go_ret
      exact ⟨rfl, HB3.out.old⟩
end Go.Proofs.YtigbceankmfaeaaGreatDoor.P3.L

namespace Go.Proofs.YtigbceankmfaeaaGreatDoor.P3.L
theorem proved : True := by
  have _ := @back_walk
  have _ := @again_walk
  have _ := @order_walk
  have _ := @tab_of
  have _ := @door_met
  have _ := @own
  have _ := @open_graph
  have _ := @Wt.of
  trivial
end Go.Proofs.YtigbceankmfaeaaGreatDoor.P3.L
