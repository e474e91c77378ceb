/-
  The document's own Scan.
-/
import Derived.Test.YthbleofighjjgaaLgD
namespace Go.Proofs.Ythbleofighjjgaa.LG
open Go.RowKit Go.Shelf Go.Proofs.Ythbleofighjjgaa.B
attribute [local go_sem] Oper.semAt_some

theorem drop_get (l : Bs) (n i : Nat) : (l.drop n)[i]! = l[n + i]! := by
  rw [List.getElem!_eq_getElem?_getD, List.getElem!_eq_getElem?_getD, List.getElem?_drop]
set_option maxHeartbeats 4000000 in
set_option maxRecDepth 100000 in
theorem rscan_any (w : World) (s : ByteArray) (hs : s.size ≤ 1000000) : Calls Try.prog 11 #[.string s] w (ScanE s w) := by
  obtain ⟨i0, hi0, hi1, hi2, hi3⟩ := info_parts info_str
  have hz0 : w.heap.size ≤ w.heap.size := Nat.le_refl _
  go_enter Try.func11, Try.ntmps11
  go_wp2_with fail
  go_loopw [4, 5] (fun v i wr => ∃ (l : List ByteArray) (n : Nat), i = .int .i64 (n : Int) ∧ Hid (SC s l n) ∧ Hid (wr.ownsRow w.heap.size 9 1 v l.length (l.map Value.string)) ∧ Hid (Below w.heap.size w wr)) (fun _ i _ => s.size - (intOf i).toNat)
  case atStart => exact ⟨[], 0, rfl, Lib.hid ⟨by simp, rfl, rfl⟩, Lib.hid (World.ownsRow_made w #[] 0 (Nat.le_refl _) (Nat.zero_le _) (by simp)), Lib.hid ((Below.refl _ _).alloc (Nat.le_refl _) _)⟩
  case round =>
    obtain ⟨l, n, rfl, HS, HO, HB⟩ := hrel
    have hn := HS.out.le
    have hw0 : (0 : Int) ≤ (n : Int) := Int.natCast_nonneg _
    obtain ⟨va, vc, rfl⟩ := own_slice HO.out
    by_cases h8 : n + 8 < s.size
    · have d8 : decide ((n : Int) + 8 < (s.size : Int)) = true := decide_eq_true (by omega)
      have t1 : ((n : Int) + 1).toNat = n + 1 := by omega
      have t2 : ((n : Int) + 2).toNat = n + 2 := by omega
      have g1 : (n : Int) + 1 < (s.size : Int) := by omega
      have g2 : (n : Int) + 2 < (s.size : Int) := by omega
      have p1 : (0 : Int) ≤ (n : Int) + 1 := by omega
      have p2 : (0 : Int) ≤ (n : Int) + 2 := by omega
      have k1 : n + 1 < s.size := by omega
      have k2 : n + 2 < s.size := by omega
      have q1 : ((s[n + 1]).toNat : Int) < 256 := by have := (s[n + 1]).toNat_lt; omega
      have q2 : ((s[n + 2]).toNat : Int) < 256 := by have := (s[n + 2]).toNat_lt; omega
      go_wp2_with fail
      go_quiet (fail)
      obtain ⟨m, hm⟩ : ∃ m : Nat, m = 256 * (s[n + 1]).toNat + (s[n + 2]).toNat := ⟨_, rfl⟩
      have hmi : (256 * ((s[n + 1]).toNat : Int) + ((s[n + 2]).toNat : Int)) = (m : Int) := by omega
      rw [hmi]
      have HFR : Hid (∀ r u, Ok r → (by' s).drop n = frL r ++ u → r.length = m) := Lib.hid (fun r u hr e => by
        have h := (fr_tells hr e).2.1
        rw [drop_get, drop_get, ← by_get k1, ← by_get k2] at h
        omega)
      have hm2 : m < 65536 := by omega
      have HNS := Lib.hid HS.out.n
      have HBD : Hid (Below w.heap.size w (wr.drewN nq)) := Lib.hid (below_draws HB.out nq)
      have HOD : Hid ((wr.drewN nq).ownsRow w.heap.size 9 1 (.slice va l.length vc) l.length (l.map Value.string)) := Lib.hid (own_below HO.out (below_draws (Below.refl _ _) nq))
      obtain ⟨wd, hwd⟩ : ∃ wd, wd = wr.drewN nq := ⟨_, rfl⟩
      rw [← hwd] at HBD HOD ⊢
      clear hwd hm hmi HO HB
      have hlen : ((by' s).drop n).length = s.size - n := by rw [List.length_drop, by_len]
      by_cases hok : 1 ≤ m ∧ m ≤ 400
      · have d1 : decide ((m : Int) < 1) = false := decide_eq_false (by omega)
        have d2 : decide ((400 : Int) < (m : Int)) = false := decide_eq_false (by omega)
        by_cases hl : s.size < n + 8 + m
        · have d3 : decide ((s.size : Int) < (n : Int) + 8 + (m : Int)) = true := decide_eq_true (by omega)
          have HE := Lib.hid (HS.out.scan (fun r u hr e => by
            have h1 := HFR.out r u hr e
            have h2 := (fr_tells hr e).1
            rw [hlen] at h2
            omega))
          clear hlen
          go_wp2_with fail
          go_ret2
          exact ⟨HBD.out, _, l, by rw [← HNS.out]; rfl, HOD.out, HE.out⟩
        · have d3 : decide ((s.size : Int) < (n : Int) + 8 + (m : Int)) = false := decide_eq_false (by omega)
          obtain ⟨x, hx⟩ : ∃ x, x = s.extract (n + 7) (n + 7 + m) := ⟨_, rfl⟩
          have hxb : by' x = (((by' s).drop n).drop 7).take m := by rw [hx, by_cut, List.drop_drop]; congr 1; omega
          have hxl : x.size = m := by rw [← by_len, hxb, List.length_take, List.length_drop, hlen]; omega
          have HXB := Lib.hid hxb
          have HXL := Lib.hid hxl
          have HFE : Hid (frE x = (frA x, 0)) := Lib.hid (if_pos (by rw [hxl]; exact hok))
          have CF := fun W => Lib.hid (rframe_any W x (by rw [hxl]; omega))
          rw [HFE.out] at CF
          have HYB : Hid (by' (s.extract n (n + 8 + m)) = ((by' s).drop n).take (m + 8)) := Lib.hid (by rw [by_cut]; congr 1; omega)
          have a1 : (0 : Int) ≤ (n : Int) + 7 := by omega
          have a2 : (n : Int) + 7 + (m : Int) ≤ (s.size : Int) := by omega
          have a3 : (0 : Int) ≤ (n : Int) + 7 + (m : Int) := by omega
          have a4 : ((n : Int) + 7).toNat = n + 7 := by omega
          have a5 : ((n : Int) + 7 + (m : Int)).toNat = n + 7 + m := by omega
          have a6 : (0 : Int) ≤ (n : Int) + 8 + (m : Int) := by omega
          have a7 : (n : Int) + 8 + (m : Int) ≤ (s.size : Int) := by omega
          have a8 : ((n : Int) + 8 + (m : Int)).toNat = n + 8 + m := by omega
          clear hxb hxl hlen
          go_wp2_with fail
          rw [← hx]
          clear hx
          refine (CF _).out.mono ?_
          rintro e w2 ⟨rfl, hb2⟩
          have HBX : Hid (Below w.heap.size w w2) := Lib.hid (HBD.out.trans (hb2.mono HBD.out.size))
          have HO2 := Lib.hid (own_below HOD.out hb2)
          clear hb2 CF
          by_cases hq : s.extract n (n + 8 + m) = frA x
          · have HX : Hid ((by' s).drop n = frL (by' x) ++ ((by' s).drop n).drop (m + 8)) := Lib.hid (by
              rw [← by_fr, ← hq, HYB.out, List.take_append_drop])
            have HOK : Hid (Ok (by' x)) := Lib.hid ((ok_size x).2 (by rw [HXL.out]; exact hok))
            have HM := Lib.hid (HS.out.more HOK.out HX.out)
            have hm' := HM.out.le
            have hfew := HS.out.few
            have hxz : x.size = m := HXL.out
            go_wp2_with (at_builtin; refine wpList_append_own _ rfl (.tmp 69) (.tmp 71) 26 rfl w.heap.size 9 i0 _ 1 16 Try.underlying26 hi0 hi1 hi2 hi3 rfl (by omega) _ _ _ rfl (HO2.out.alloc _) ⟨w2.heap.size, 0, none⟩ 1 1 [.string x] rfl rfl ?c1 ?c2 ?c3 ?c4 ?c5 ?_)
            case c1 =>
              intro j u hj
              match j, hj with
              | 0, hj => simp at hj; subst hj; simp [Addr.add]
            case c2 => intro u hu; simp at hu; subst hu; rfl
            case c3 => unfold maxLen; omega
            case c4 => omega
            case c5 => rw [World.size_alloc]; have := HBX.out.size; omega
            intro v' w4 hown' hgrow _
            have HB4 : Hid (Below w.heap.size w w4) := Lib.hid ((HBX.out.alloc HBX.out.size _).grown hgrow (by rw [World.size_alloc]; have := HBX.out.size; omega) (fun j hj => (HO2.out.lt j hj).1))
            have HV4 : Hid (w4.ownsRow w.heap.size 9 1 v' (l ++ [x]).length ((l ++ [x]).map Value.string)) := Lib.hid (by
              rw [List.map_append, List.length_append]; exact hown')
            clear hown' hgrow
            have hi8 : (n : Int) + (8 + (m : Int)) = ((n + (x.size + 8) : Nat) : Int) := by omega
            go_wp2_with fail
            go_roundw
            case rel => exact ⟨l ++ [x], n + (x.size + 8), by first | go_num | (congr 1; omega), HM, HV4, HB4⟩
            case measure => simp [intOf]; omega
          · have hqb := str_ne hq
            have HE := Lib.hid (HS.out.scan (fun r u hr e => hq (by
              have h1 := HFR.out r u hr e
              have h2 := fr_tells hr e
              have h3 : r = by' x := by rw [HXB.out, ← h1, h2.2.2.1]
              apply by_inj
              rw [HYB.out, by_fr, ← h1, h2.2.2.2.2.2, h3])))
            go_wp2_with fail
            go_ret2
            exact ⟨HBX.out, _, l, by rw [← HNS.out]; rfl, HO2.out, HE.out⟩
      · have HE := Lib.hid (HS.out.scan (fun r u hr e => hok (by rw [← HFR.out r u hr e]; exact hr)))
        clear hlen
        by_cases hm1 : 1 ≤ m
        · have d1 : decide ((m : Int) < 1) = false := decide_eq_false (by omega)
          have d2 : decide ((400 : Int) < (m : Int)) = true := decide_eq_true (by omega)
          clear hok
          go_wp2_with fail
          go_ret2
          exact ⟨HBD.out, _, l, by rw [← HNS.out]; rfl, HOD.out, HE.out⟩
        · have d1 : decide ((m : Int) < 1) = true := decide_eq_true (by omega)
          clear hok
          go_wp2_with fail
          go_ret2
          exact ⟨HBD.out, _, l, by rw [← HNS.out]; rfl, HOD.out, HE.out⟩
    · have d8 : decide ((n : Int) + 8 < (s.size : Int)) = false := decide_eq_false (by omega)
      have HE := Lib.hid (HS.out.scan (nof_short (by rw [List.length_drop, by_len]; omega)))
      have HNS := Lib.hid HS.out.n
      go_wp2_with fail
      go_ret2
      exact ⟨HB.out, _, l, by rw [← HNS.out]; rfl, HO.out, HE.out⟩
end Go.Proofs.Ythbleofighjjgaa.LG
