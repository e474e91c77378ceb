/-
  LogBack: records come back from their frames, whatever bytes 0 come behind, whatever the records; no condition.
-/
import Derived.Test.YthbleofighjjgaaLgG
import Derived.ShutString
import Derived.ChangeMaps5
namespace Go.Proofs.Ythbleofighjjgaa.LBack
open Go.RowKit Go.Shelf Go.Deep Go.Joins Go.ChangeShapes Go.WideShapes Go.Proofs.Ythbleofighjjgaa.B Go.Proofs.Ythbleofighjjgaa.LG Go.Proofs.Ythbleofighjjgaa.OP
open Go.ChangeMaps (open_string)
attribute [local go_sem] Oper.semAt_some
set_option maxRecDepth 100000 in
set_option maxHeartbeats 8000000 in
theorem walk (W : World) (A : Option Addr) (c : Nat) (l : List ByteArray) (b : UInt8) (hr : Row W A (l.flatMap stC)) (hg : (∀ x ∈ l, x.size ≤ 140737488351232) ∧ l.length ≤ 140737488351232) :
    Calls Try.prog 4 #[.slice A l.length c, .int .u8 (b.toNat : Int)] W fun e W' => e = .returned (.bool true) ∧ Below W.heap.size W W' := by
  have CA := Lib.hid (awake_any W)
  have HR := Lib.hid hr
  have HG := Lib.hid hg.1
  have hb8 : b.toNat < 256 := b.toNat_lt
  obtain ⟨n, hn⟩ : ∃ n, n = b.toNat := ⟨_, rfl⟩
  rw [← hn] at hb8 ⊢
  clear hr hn
  replace hg := hg.2
  go_enter Try.func4, Try.ntmps4
  go_wp2_with fail
  refine CA.out.mono ?_
  rintro e W1 ⟨rfl, hb1⟩
  have HB1 := Lib.hid hb1
  clear hb1 CA
  go_wp2_with fail
  go_loopw [5, 15] (fun v i wr => ∃ (k : Nat) (z : Int), k ≤ l.length ∧ i = .int .i64 (k : Int) ∧ v = .int .i64 z ∧ Hid (Cnt l k z) ∧ Hid (Below W.heap.size W wr)) (fun _ i _ => l.length - (intOf i).toNat)
  case atStart => exact ⟨0, 0, Nat.zero_le _, rfl, rfl, Lib.hid (fun _ => rfl), HB1⟩
  case round =>
    obtain ⟨k, z, hk, rfl, rfl, HC, HB⟩ := hrel
    by_cases hlt : k < l.length
    · obtain ⟨ba, oa, rfl, hba, hca⟩ := row_at HR.out hlt
      have c1 := (HB.out.cell (p := ⟨ba, oa + k, none⟩) hba).trans hca
      have hk0 : (0 : Int) ≤ (k : Int) := Int.natCast_nonneg _
      have hk1 : (k : Int) < (l.length : Int) := by omega
      have hx := HG.out _ (mem_at hlt)
      have hnx := szs_next hlt
      clear hca
      obtain ⟨x, hxx⟩ : ∃ x, x = l[k]! := ⟨_, rfl⟩
      rw [← hxx] at c1 hx hnx
      clear hxx
      by_cases h20 : k < 20
      · have hz := HC.out (by omega)
        have hle := cnt_le HG.out (show k ≤ 20 by omega)
        have hwr : wrap64 (z + (x.size : Int)) = z + (x.size : Int) := by unfold wrap64; omega
        have HC' : Hid (Cnt l (k + 1) (z + (x.size : Int))) := Lib.hid (fun _ => by rw [hnx, hz]; omega)
        clear hz hnx hle
        go_wp2_with fail
        go_roundw
        case rel => exact ⟨k + 1, _, hlt, by go_num, rfl, Lib.hid (by rw [hwr]; exact HC'.out), HB⟩
        case measure => simp [intOf]; omega
      · clear hnx
        go_wp2_with fail
        go_roundw
        case rel => exact ⟨k + 1, _, hlt, by go_num, rfl, Lib.hid (fun h => absurd h (by omega)), HB⟩
        case measure => simp [intOf]; omega
    · obtain rfl : k = l.length := by omega
      by_cases h4 : 4096 < z
      · have d1 : decide ((4096 : Int) < z) = true := decide_eq_true h4
        go_wp2_with fail
        go_ret
        exact ⟨rfl, HB.out⟩
      · have d1 : decide ((4096 : Int) < z) = false := decide_eq_false h4
        by_cases h20 : 20 < l.length
        · have d2 : decide ((20 : Int) < (l.length : Int)) = true := decide_eq_true (by omega)
          go_wp2_with fail
          go_ret
          exact ⟨rfl, HB.out⟩
        · have d2 : decide ((20 : Int) < (l.length : Int)) = false := decide_eq_false (by omega)
          have hz := HC.out (by omega)
          rw [List.take_length] at hz
          subst hz
          have hsm : szs l ≤ 4096 := by omega
          have CJ := Lib.hid (join_any wr A c l (HR.out.below (Nat.le_refl _) HB.out) (fun r hr => by have := szs_mem hr; omega) (by omega))
          by_cases hok : ∀ r ∈ l, 1 ≤ r.size ∧ r.size ≤ 400
          · rw [join_yes hok] at CJ
            have hcs := cat_szs l
            obtain ⟨J, hJ⟩ : ∃ J : ByteArray, J = ⟨(cat (l.map by')).toArray⟩ := ⟨_, rfl⟩
            have hJz : J.size = szs l + l.length * 8 := by rw [← by_len, hJ]; exact hcs
            have HSC : Hid (ScanP (by' (J ++ zeroA n)) (l.map by')) := Lib.hid (scan_tail hok (t := List.replicate n 0) (by rw [by_append, hJ]; rfl) (nof_zero n))
            have hzs := zero_size n
            have CS := fun W => Lib.hid (scan_any W (J ++ zeroA n) (by rw [ByteArray.size_append]; omega))
            rw [← hJ] at CJ
            have HCS := Lib.hid hcs
            clear hJ hcs
            go_wp2_with fail
            refine CJ.out.mono ?_
            rintro e W2 ⟨rfl, hb2⟩
            have HB2 := Lib.hid (HB.out.trans (hb2.mono HB.out.size))
            clear hb2 CJ
            go_wp2_with fail
            rw [run_zero W2 .u8 n (by omega)]
            have hcz := conv_zero W2 n
            have o1 : ¬ (9223372036854775807 < J.size + n) := by omega
            have hpz : ((zeroA n).size : Int) = n := by omega
            go_wp2_with fail
            have HA2 : Hid (Below W2.heap.size W2 (W2.alloc (.cells (madeCells #[.int .u8 0] n) 5))) := Lib.hid ((Below.refl _ _).alloc (Nat.le_refl _) _)
            refine (CS _).out.mono ?_
            rintro e W3 ⟨hb3, v3, m, rfl, ho3, hs3⟩
            obtain rfl : l = m := map_by (scan_same HSC.out hs3)
            have HB3 := Lib.hid (HB2.out.trans ((HA2.out.trans (hb3.mono HA2.out.size)).mono HB2.out.size))
            rw [HCS.out, ← hJz]
            obtain ⟨A3, c3, rfl, hr3⟩ := row_shut ho3
            have HR3 := Lib.hid hr3
            clear hb3 hs3 ho3 hr3 hcz
            go_wp2_with fail
            refine (same_any W3 A A3 c c3 l l (HR.out.below (Nat.le_refl _) HB3.out) HR3.out (by omega)).mono ?_
            rintro e W4 ⟨he, hb4⟩
            have hsm2 : decide (l = l) = true := decide_eq_true rfl
            rw [hsm2] at he
            subst he
            have HB4 := Lib.hid (HB3.out.trans (hb4.mono HB3.out.size))
            have hJi : (J.size : Int) = (szs l : Int) + (l.length : Int) * 8 := by omega
            clear hb4 hsm2
            go_wp2_with fail
            go_ret
            exact ⟨rfl, HB4.out⟩
          · rw [join_no hok] at CJ
            go_wp2_with fail
            refine CJ.out.mono ?_
            rintro e W2 ⟨rfl, hb2⟩
            have HB2 := Lib.hid (HB.out.trans (hb2.mono HB.out.size))
            clear hb2 CJ
            go_wp2_with fail
            go_ret
            exact ⟨rfl, HB2.out⟩

theorem own : ownKnob Try.prog.godebug = none := by kernel_rfl
set_option maxRecDepth 100000 in
theorem lifted (os : Os) (started : os.Started) (H : Type) (enc : TypeId × Value → H) :
    ReturnsInHanded {} Try.checked os 4 .any (Rows.logBackSpec.pre6 enc Try.prog Try.f4 Rows.logBackRow.domain false) (Rows.logBackSpec.post enc Try.prog Try.f4 false true false false) := by
  refine returnsInHanded_of_change_sized (C := Try.checked) own started (by kernel_rfl) Try.func4
    (ChangeSpec.witness6 (enc := enc) (C := Try.checked) false ⟨#[], #[.slice none 0 0, .int .u8 0], []⟩ 8 (by kernel_rfl) (by kernel_rfl) (by kernel_rfl) (by kernel_rfl)) ?_
  intro W base args ds gs before hval0 hW _ hsz0 _
  have hsz : (DataW.weightsEach Try.prog (Try.f4.params.toList ++ Rows.logBackSpec.plain.varTypes Try.prog) (ds ++ gs)).all (· ≤ reachBytes) = true := hsz0
  have hval : ∀ (j : Nat) t v, Try.f4.params[j]? = some t → args[j]? = some v → Value.okWide Try.prog W .any base t v := hval0
  have hW' := hW
  obtain ⟨p, q, hA0, hV, rfl, _, _⟩ := hW
  have hA : DataW.TrodAll enc Try.prog W 0 (fun _ => true) true Try.f4.params.toList args.toList ds p := hA0
  rw [Try.params4] at hA hval hsz
  obtain ⟨v0, vs0, d0, ds0, p0, q0, hargs, rfl, rfl, h0, r0⟩ := trodAll_cons hA
  obtain ⟨v1, vs1, d1, ds1, p1, q1, e1, rfl, rfl, h1, r1⟩ := trodAll_cons r0
  obtain ⟨rfl, rfl, rfl⟩ := trodAll_nil r1
  subst e1
  obtain rfl : args = #[v0, v1] := by cases args; simp_all
  obtain ⟨rfl, rfl⟩ := trodVars_none hV
  have hw0 : Wt Try.prog 26 d0 := Wt.of hsz (j := 0) rfl rfl
  obtain ⟨A0, c0, l0, rfl, hr0, hg0⟩ := open_strs (hval 0 _ v0 rfl rfl) h0 hw0
  obtain ⟨b1, rfl⟩ := open_u8 (hval 1 _ v1 rfl rfl) h1
  clear hA0 hval0 hsz0
  simp only [List.append_nil] at hW'
  have hlt0 := fun x hx => hW'.lt x hx
  refine (walk W A0 c0 l0 b1 hr0 hg0).mono fun e W' ⟨he2, hg⟩ => ?_
  subst he2
  have hargs := (trodAll_cons_mk (Below.trod progLaid (by kernel_rfl) (of_decide_eq_true (by kernel_rfl)) h0 hg (fun x hx => hlt0 x (List.mem_append_left _ hx))) (trodAll_cons_mk (Below.trod progLaid (by kernel_rfl) (of_decide_eq_true (by kernel_rfl)) h1 hg (fun x hx => hlt0 x (List.mem_append_right _ (hx)))) (trodAll_mk0 (enc := enc) (P := Try.prog) (w := W'))))
  simp only [List.append_nil] at hargs
  exact ⟨_, rfl, _, _, _, [], p0 ++ (p1), [], hW', trodAll_cons_mk (shut_bool Try.underlying4 _) trodAll_mk0, hargs, rfl, hg.frame _, fun h => by cases h⟩

theorem proved : Rows.LogBackSaid :=
  OpenClaim.holds_of_wide 4 Try.f4 rfl rfl rfl rfl rfl rfl rfl ⟨rfl, rfl, rfl, rfl, rfl⟩ rfl rfl rfl rfl rfl (by kernel_rfl) Try.func4 (by kernel_rfl)
    (of_decide_eq_true (by kernel_rfl)) (by unfold Func.isWrapper; first | (rw [if_pos (by decide +kernel)]; kernel_rfl) | (rw [if_neg (by decide +kernel)]; exact ⟨rfl, rfl⟩))
    (fun os started H enc _ => lifted os started H enc)
end Go.Proofs.Ythbleofighjjgaa.LBack
