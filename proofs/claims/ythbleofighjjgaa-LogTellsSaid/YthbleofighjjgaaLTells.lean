/-
  LogTells: a record's sum and frame, and the records of any bytes, are as the document says, whatever the record and the bytes; no condition.
-/
import Derived.Test.YthbleofighjjgaaLgF
import Derived.Test.YthbleofighjjgaaOpn
import Derived.ShutString
import Derived.ChangeMaps5
namespace Go.Proofs.Ythbleofighjjgaa.LTells
open Go.RowKit Go.Shelf Go.Deep Go.Joins Go.ChangeShapes Go.WideShapes Go.Proofs.Ythbleofighjjgaa.B Go.Proofs.Ythbleofighjjgaa.LG Go.Proofs.Ythbleofighjjgaa.OP
open Go.ChangeMaps (open_string)
attribute [local go_sem] Oper.semAt_some
set_option maxRecDepth 100000 in
set_option maxHeartbeats 8000000 in
theorem walk (W : World) (a b : ByteArray) :
    Calls Try.prog 3 #[.string a, .string b] W fun e W' => e = .returned (.bool true) ∧ Below W.heap.size W W' := by
  have CA := Lib.hid (awake_any W)
  by_cases hs : a.size ≤ 4096 ∧ b.size ≤ 4096
  · have da : decide ((4096 : Int) < (a.size : Int)) = false := decide_eq_false (by omega)
    have db : decide ((4096 : Int) < (b.size : Int)) = false := decide_eq_false (by omega)
    have ha : a.size ≤ 1000000 := by omega
    have hb : b.size ≤ 1000000 := by omega
    have HL : Hid (b.size ≤ 4096) := Lib.hid hs.2
    clear hs
    go_enter Try.func3, Try.ntmps3
    go_wp2_with fail
    refine CA.out.mono ?_
    rintro e W1 ⟨rfl, hb1⟩
    have HB1 := Lib.hid hb1
    clear hb1 CA
    go_wp2_with fail
    refine (frame_any W1 a ha).mono ?_
    rintro e W2 ⟨rfl, hb2⟩
    have HB2 := Lib.hid (HB1.out.trans (hb2.mono HB1.out.size))
    clear hb2 HB1
    go_wp2_with fail
    refine (rframe_any W2 a ha).mono ?_
    rintro e W3 ⟨rfl, hb3⟩
    have HB3 := Lib.hid (HB2.out.trans (hb3.mono HB2.out.size))
    clear hb3 HB2
    obtain ⟨p, q⟩ := frE a
    go_wp2_with fail
    refine (scan_any W3 b hb).mono ?_
    rintro e W4 ⟨hb4, v4, l, rfl, ho4, hs4⟩
    have HS4 := Lib.hid hs4
    have HO4 := Lib.hid ho4
    have HB4 := Lib.hid (HB3.out.trans (hb4.mono HB3.out.size))
    clear hb4 HB3 ho4 hs4
    obtain ⟨z, hz⟩ : ∃ z, z = (cat (l.map by')).length := ⟨_, rfl⟩
    rw [← hz]
    have HZ := Lib.hid hz
    clear hz
    go_wp2_with fail
    refine (rscan_any W4 b hb).mono ?_
    rintro e W5 ⟨hb5, v5, m, rfl, ho5, hs5⟩
    obtain rfl : l = m := map_by (scan_same HS4.out hs5)
    rw [← HZ.out]
    have HO45 := Lib.hid (own_below HO4.out hb5)
    have HO5 := Lib.hid ho5
    have HB5 := Lib.hid (HB4.out.trans (hb5.mono HB4.out.size))
    have hfl : l.length ≤ 1000000 := by
      have h1 := cat_ge (l.map by')
      obtain ⟨_, t, ht, _⟩ := HS4.out
      have h2 := congrArg List.length ht
      rw [by_len, List.length_append] at h2
      rw [List.length_map] at h1
      have := HL.out
      omega
    clear hb5 HB4 ho5 hs5 HO4 HS4
    obtain ⟨A4, c4, rfl, hr4⟩ := row_shut HO45.out
    obtain ⟨A5, c5, rfl, hr5⟩ := row_shut HO5.out
    have HR4 := Lib.hid hr4
    have HR5 := Lib.hid hr5
    clear hr4 hr5 HO45 HO5
    go_wp2_with fail
    refine (sum_any W5 a ha).mono ?_
    rintro e W6 ⟨rfl, hb6⟩
    have HR46 := Lib.hid (HR4.out.below (Nat.le_refl _) hb6)
    have HR56 := Lib.hid (HR5.out.below (Nat.le_refl _) hb6)
    have HB6 := Lib.hid (HB5.out.trans (hb6.mono HB5.out.size))
    clear hb6 HB5 HR4 HR5
    obtain ⟨K, hK⟩ : ∃ K : Nat, K = crc (by' a) := ⟨_, rfl⟩
    have CR := Lib.hid (rsum_any W6 a ha)
    rw [← hK] at CR ⊢
    clear hK
    go_wp2_with fail
    refine CR.out.mono ?_
    rintro e W7 ⟨rfl, rfl⟩
    go_wp2_with fail
    refine (same_any W7 A4 A5 c4 c5 l l HR46.out HR56.out hfl).mono ?_
    rintro e W8 ⟨he, hb8⟩
    have hsm : decide (l = l) = true := decide_eq_true rfl
    rw [hsm] at he
    subst he
    have HB8 := Lib.hid (HB6.out.trans (hb8.mono HB6.out.size))
    clear hb8 hsm
    go_wp2_with fail
    go_ret
    exact ⟨rfl, HB8.out⟩
  · by_cases ha : a.size ≤ 4096
    · have da : decide ((4096 : Int) < (a.size : Int)) = false := decide_eq_false (by omega)
      have db : decide ((4096 : Int) < (b.size : Int)) = true := decide_eq_true (by omega)
      clear hs ha
      go_enter Try.func3, Try.ntmps3
      go_wp2_with fail
      refine CA.out.mono ?_
      rintro e W1 ⟨rfl, hb1⟩
      have HB1 := Lib.hid hb1
      clear hb1 CA
      go_wp2_with fail
      go_ret
      exact ⟨rfl, HB1.out⟩
    · have da : decide ((4096 : Int) < (a.size : Int)) = true := decide_eq_true (by omega)
      clear hs ha
      go_enter Try.func3, Try.ntmps3
      go_wp2_with fail
      refine CA.out.mono ?_
      rintro e W1 ⟨rfl, hb1⟩
      have HB1 := Lib.hid hb1
      clear hb1 CA
      go_wp2_with fail
      go_ret
      exact ⟨rfl, HB1.out⟩

theorem own : ownKnob Try.prog.godebug = none := by kernel_rfl
set_option maxRecDepth 100000 in
theorem lifted (os : Os) (started : os.Started) (H : Type) (enc : TypeId × Value → H) :
    ReturnsInHanded {} Try.checked os 3 .any (Rows.logTellsSpec.pre6 enc Try.prog Try.f3 Rows.logTellsRow.domain false) (Rows.logTellsSpec.post enc Try.prog Try.f3 false true false false) := by
  refine returnsInHanded_of_change_sized (C := Try.checked) own started (by kernel_rfl) Try.func3
    (ChangeSpec.witness6 (enc := enc) (C := Try.checked) false ⟨#[], #[.string ByteArray.empty, .string ByteArray.empty], []⟩ 8 (by kernel_rfl) (by kernel_rfl) (by kernel_rfl) (by kernel_rfl)) ?_
  intro W base args ds gs before hval0 hW _ hsz0 _
  have hsz : (DataW.weightsEach Try.prog (Try.f3.params.toList ++ Rows.logTellsSpec.plain.varTypes Try.prog) (ds ++ gs)).all (· ≤ reachBytes) = true := hsz0
  have hval : ∀ (j : Nat) t v, Try.f3.params[j]? = some t → args[j]? = some v → Value.okWide Try.prog W .any base t v := hval0
  have hW' := hW
  obtain ⟨p, q, hA0, hV, rfl, _, _⟩ := hW
  have hA : DataW.TrodAll enc Try.prog W 0 (fun _ => true) true Try.f3.params.toList args.toList ds p := hA0
  rw [Try.params3] at hA hval hsz
  obtain ⟨v0, vs0, d0, ds0, p0, q0, hargs, rfl, rfl, h0, r0⟩ := trodAll_cons hA
  obtain ⟨v1, vs1, d1, ds1, p1, q1, e1, rfl, rfl, h1, r1⟩ := trodAll_cons r0
  obtain ⟨rfl, rfl, rfl⟩ := trodAll_nil r1
  subst e1
  obtain rfl : args = #[v0, v1] := by cases args; simp_all
  obtain ⟨rfl, rfl⟩ := trodVars_none hV
  obtain ⟨a0, rfl, -, -, w0⟩ := open_string Try.underlying9 (hval 0 9 v0 rfl rfl) h0
  obtain ⟨a1, rfl, -, -, w1⟩ := open_string Try.underlying9 (hval 1 9 v1 rfl rfl) h1
  clear hA0 hval0 hsz0
  simp only [List.append_nil] at hW'
  have hlt0 := fun x hx => hW'.lt x hx
  refine (walk W a0 a1).mono fun e W' ⟨he2, hg⟩ => ?_
  subst he2
  have hargs := (trodAll_cons_mk (Below.trod progLaid (by kernel_rfl) (of_decide_eq_true (by kernel_rfl)) h0 hg (fun x hx => hlt0 x (List.mem_append_left _ hx))) (trodAll_cons_mk (Below.trod progLaid (by kernel_rfl) (of_decide_eq_true (by kernel_rfl)) h1 hg (fun x hx => hlt0 x (List.mem_append_right _ (hx)))) (trodAll_mk0 (enc := enc) (P := Try.prog) (w := W'))))
  simp only [List.append_nil] at hargs
  exact ⟨_, rfl, _, _, _, [], p0 ++ (p1), [], hW', trodAll_cons_mk (shut_bool Try.underlying4 _) trodAll_mk0, hargs, rfl, hg.frame _, fun h => by cases h⟩

theorem proved : Rows.LogTellsSaid :=
  OpenClaim.holds_of_wide 3 Try.f3 rfl rfl rfl rfl rfl rfl rfl ⟨rfl, rfl, rfl, rfl, rfl⟩ rfl rfl rfl rfl rfl (by kernel_rfl) Try.func3 (by kernel_rfl)
    (of_decide_eq_true (by kernel_rfl)) (by unfold Func.isWrapper; first | (rw [if_pos (by decide +kernel)]; kernel_rfl) | (rw [if_neg (by decide +kernel)]; exact ⟨rfl, rfl⟩))
    (fun os started H enc _ => lifted os started H enc)
end Go.Proofs.Ythbleofighjjgaa.LTells
