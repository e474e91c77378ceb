/-
  LogAhead: what is read of bytes hangs on those ahead of its end alone, whatever the bytes; no condition.
-/
import Derived.Test.YthbleofighjjgaaLgF
import Derived.Test.YthbleofighjjgaaOpn
import Derived.ShutString
import Derived.ChangeMaps5
namespace Go.Proofs.Ythbleofighjjgaa.LAhead
open Go.RowKit Go.Shelf Go.Deep Go.Joins Go.ChangeShapes Go.WideShapes Go.Proofs.Ythbleofighjjgaa.B Go.Proofs.Ythbleofighjjgaa.LG Go.Proofs.Ythbleofighjjgaa.OP
open Go.ChangeMaps (open_string)
attribute [local go_sem] Oper.semAt_some
theorem row_pre {w : World} {A : Option Addr} {l m : List ByteArray} (h : Row w A ((l ++ m).flatMap stC)) : Row w A (l.flatMap stC) := by
  intro hne
  rw [List.flatMap_append] at h
  obtain ⟨b, off, h1, h2, h3⟩ := h (fun e => hne (List.append_eq_nil_iff.1 e).1)
  exact ⟨b, off, h1, h2, fun j u hu => h3 j u (by rw [List.getElem?_append_left (List.getElem?_eq_some_iff.1 hu).1]; exact hu)⟩
theorem split_by : ∀ {m l : List ByteArray} {x : List Bs}, m.map by' = l.map by' ++ x → ∃ m2, m = l ++ m2
  | m, [], _, _ => ⟨m, rfl⟩
  | [], _ :: _, _, h => by cases h
  | a :: m, b :: l, x, h => by
    rw [List.map_cons, List.map_cons, List.cons_append] at h
    obtain ⟨h1, h2⟩ := List.cons.inj h
    obtain ⟨m2, rfl⟩ := split_by h2
    exact ⟨m2, by rw [by_inj h1, List.cons_append]⟩
theorem join_of {s : ByteArray} {l : List ByteArray} (h : ScanP s.data.toList (l.map by')) : joE l = (⟨(cat (l.map by')).toArray⟩, 0) :=
  if_pos (fun r hr => (ok_size r).1 (h.1 _ (List.mem_map.2 ⟨r, hr, rfl⟩)))
set_option maxRecDepth 100000 in
set_option maxHeartbeats 8000000 in
theorem walk (W : World) (a b : ByteArray) (ha : a.size ≤ 140737488351232) (hb : b.size ≤ 140737488351232) :
    Calls Try.prog 6 #[.string a, .string b] W fun e W' => e = .returned (.bool true) ∧ Below W.heap.size W W' := by
  have CA := Lib.hid (awake_any W)
  by_cases hs : a.size + b.size ≤ 4096
  · have da : decide ((4096 : Int) < (a.size : Int) + (b.size : Int)) = false := decide_eq_false (by omega)
    replace ha : a.size ≤ 4096 := by omega
    replace hb : b.size ≤ 4096 := by omega
    clear hs
    go_enter Try.func6, Try.ntmps6
    go_wp2_with fail
    refine CA.out.mono ?_
    rintro e W1 ⟨rfl, hb1⟩
    have HB1 := Lib.hid hb1
    clear hb1 CA
    go_wp2_with fail
    refine (scan_any W1 a (by omega)).mono ?_
    rintro e W4 ⟨hb4, v4, l, rfl, ho4, hs4⟩
    obtain ⟨hl4, t, ht, hnt⟩ := id hs4
    have hjo := join_of hs4
    have HO4 := Lib.hid ho4
    have HB4 := Lib.hid (HB1.out.trans (hb4.mono HB1.out.size))
    have hfl := cat_ge (l.map by')
    rw [List.length_map] at hfl
    clear hb4 HB1 ho4 hs4
    obtain ⟨z, hz⟩ : ∃ z, z = (cat (l.map by')).length := ⟨_, rfl⟩
    rw [← hz] at hfl ⊢
    have hza : z ≤ a.size := by
      have h2 := congrArg List.length ht
      rw [by_len, List.length_append] at h2
      omega
    have HEX : Hid (a.extract 0 z = ⟨(cat (l.map by')).toArray⟩) := Lib.hid (by
      apply by_inj
      have ht' : by' a = cat (l.map by') ++ t := ht
      rw [by_cut, List.drop_zero, Nat.sub_zero, ht', hz]
      show List.take _ _ = cat _
      rw [List.take_left])
    have HLS : Hid (∀ r ∈ l, r.size ≤ 1000000) := Lib.hid (fun r hr => by
      have := (hl4 _ (List.mem_map.2 ⟨r, hr, rfl⟩)).2
      rw [by_len] at this; omega)
    have hzz : (z : Int) ≤ (a.size : Int) := by omega
    obtain ⟨y, hy⟩ : ∃ y, y = a.extract 0 z := ⟨_, rfl⟩
    have hys : y.size = z := by rw [hy, ByteArray.size_extract]; omega
    rw [← hy] at HEX
    have HY := Lib.hid hy
    have HZ := Lib.hid hz
    have HJO := Lib.hid hjo
    have HLO := Lib.hid hl4
    clear hz ht hnt hjo hl4
    have hy2 : a.extract 0 z = y := hy.symm
    clear hy
    go_wp2_with fail
    refine (scan_any W4 (y ++ b) (by rw [ByteArray.size_append]; omega)).mono ?_
    rintro e W5 ⟨hb5, v5, m, rfl, ho5, hs5⟩
    obtain ⟨m2, rfl⟩ : ∃ m2, m = l ++ m2 := by
      obtain ⟨hm, t', ht', hnt'⟩ := hs5
      obtain ⟨x, hx, _⟩ := pref (l.map by') (m.map by') (by' b) t' HLO.out hm hnt' (by rw [← ht', by_append, HEX.out])
      exact split_by hx
    obtain ⟨k, hk⟩ : ∃ k, k = (cat ((l ++ m2).map by')).length := ⟨_, rfl⟩
    rw [← hk]
    have hkz : ¬ ((k : Int) < (z : Int)) := by
      rw [hk, List.map_append]
      unfold cat
      rw [List.flatMap_append, List.length_append]
      have := HZ.out
      unfold cat at this
      omega
    have HO45 := Lib.hid (own_below HO4.out hb5)
    have HO5 := Lib.hid ho5
    have HB5 := Lib.hid (HB4.out.trans (hb5.mono HB4.out.size))
    clear hb5 HB4 ho5 hs5 HO4 hk
    obtain ⟨A4, c4, rfl, hr4⟩ := row_shut HO45.out
    obtain ⟨A5, c5, rfl, hr5⟩ := row_shut HO5.out
    have hcap := (own_cap HO5.out).1
    have HR4 := Lib.hid hr4
    have HR5 := Lib.hid (row_pre hr5)
    rw [List.length_append] at hcap ⊢
    have hza2 : decide (a.size < z) = false := decide_eq_false (by omega)
    have hkz2 : decide (k < z) = false := decide_eq_false (by omega)
    have hml : decide ((l.length : Int) + (m2.length : Int) < (l.length : Int)) = false := decide_eq_false (by omega)
    have hcl : l.length ≤ c5 := by omega
    have hcl2 : (l.length : Int) ≤ (c5 : Int) := by omega
    clear hr4 hr5 HO45 HO5
    go_wp2_with fail
    refine (same_any W5 A4 A5 c4 c5 l l HR4.out HR5.out (by omega)).mono ?_
    rintro e W8 ⟨he, hb8⟩
    have hsm : decide (l = l) = true := decide_eq_true rfl
    rw [hsm] at he
    subst he
    have HB8 := Lib.hid (HB5.out.trans (hb8.mono HB5.out.size))
    have HR48 := Lib.hid (HR4.out.below (Nat.le_refl _) hb8)
    clear hb8 hsm HB5 HR4 HR5
    go_wp2_with fail
    refine (join_any W8 A4 c4 l HR48.out HLS.out (by omega)).mono ?_
    rintro e W9 ⟨he, hb9⟩
    rw [HJO.out, ← HEX.out] at he
    subst he
    have HB9 := Lib.hid (HB8.out.trans (hb9.mono HB8.out.size))
    clear hb9 HB8
    go_wp2_with fail
    go_ret
    exact ⟨rfl, HB9.out⟩
  · have da : decide ((4096 : Int) < (a.size : Int) + (b.size : Int)) = true := decide_eq_true (by omega)
    have hwr : wrap64 ((a.size : Int) + (b.size : Int)) = (a.size : Int) + (b.size : Int) := by unfold wrap64; omega
    clear hs
    go_enter Try.func6, Try.ntmps6
    go_wp2_with fail
    refine CA.out.mono ?_
    rintro e W1 ⟨rfl, hb1⟩
    have HB1 := Lib.hid hb1
    clear hb1 CA
    go_wp2_with fail
    go_ret
    exact ⟨rfl, HB1.out⟩

theorem own : ownKnob Try.prog.godebug = none := by kernel_rfl
set_option maxRecDepth 100000 in
theorem lifted (os : Os) (started : os.Started) (H : Type) (enc : TypeId × Value → H) :
    ReturnsInHanded {} Try.checked os 6 .any (Rows.logAheadSpec.pre6 enc Try.prog Try.f6 Rows.logAheadRow.domain false) (Rows.logAheadSpec.post enc Try.prog Try.f6 false true false false) := by
  refine returnsInHanded_of_change_sized (C := Try.checked) own started (by kernel_rfl) Try.func6
    (ChangeSpec.witness6 (enc := enc) (C := Try.checked) false ⟨#[], #[.string ByteArray.empty, .string ByteArray.empty], []⟩ 8 (by kernel_rfl) (by kernel_rfl) (by kernel_rfl) (by kernel_rfl)) ?_
  intro W base args ds gs before hval0 hW _ hsz0 _
  have hsz : (DataW.weightsEach Try.prog (Try.f6.params.toList ++ Rows.logAheadSpec.plain.varTypes Try.prog) (ds ++ gs)).all (· ≤ reachBytes) = true := hsz0
  have hval : ∀ (j : Nat) t v, Try.f6.params[j]? = some t → args[j]? = some v → Value.okWide Try.prog W .any base t v := hval0
  have hW' := hW
  obtain ⟨p, q, hA0, hV, rfl, _, _⟩ := hW
  have hA : DataW.TrodAll enc Try.prog W 0 (fun _ => true) true Try.f6.params.toList args.toList ds p := hA0
  rw [Try.params6] at hA hval hsz
  obtain ⟨v0, vs0, d0, ds0, p0, q0, hargs, rfl, rfl, h0, r0⟩ := trodAll_cons hA
  obtain ⟨v1, vs1, d1, ds1, p1, q1, e1, rfl, rfl, h1, r1⟩ := trodAll_cons r0
  obtain ⟨rfl, rfl, rfl⟩ := trodAll_nil r1
  subst e1
  obtain rfl : args = #[v0, v1] := by cases args; simp_all
  obtain ⟨rfl, rfl⟩ := trodVars_none hV
  have hw0 : Wt Try.prog 9 d0 := Wt.of hsz (j := 0) rfl rfl
  obtain ⟨a0, rfl, hd0, -, -⟩ := open_string Try.underlying9 (hval 0 9 v0 rfl rfl) h0
  have w0 : a0.size ≤ 140737488351232 := by rw [hd0] at hw0; have := hw0.str; simpa using this
  have hw1 : Wt Try.prog 9 d1 := Wt.of hsz (j := 1) rfl rfl
  obtain ⟨a1, rfl, hd1, -, -⟩ := open_string Try.underlying9 (hval 1 9 v1 rfl rfl) h1
  have w1 : a1.size ≤ 140737488351232 := by rw [hd1] at hw1; have := hw1.str; simpa using this
  clear hA0 hval0 hsz0
  simp only [List.append_nil] at hW'
  have hlt0 := fun x hx => hW'.lt x hx
  refine (walk W a0 a1 w0 w1).mono fun e W' ⟨he2, hg⟩ => ?_
  subst he2
  have hargs := (trodAll_cons_mk (Below.trod progLaid (by kernel_rfl) (of_decide_eq_true (by kernel_rfl)) h0 hg (fun x hx => hlt0 x (List.mem_append_left _ hx))) (trodAll_cons_mk (Below.trod progLaid (by kernel_rfl) (of_decide_eq_true (by kernel_rfl)) h1 hg (fun x hx => hlt0 x (List.mem_append_right _ (hx)))) (trodAll_mk0 (enc := enc) (P := Try.prog) (w := W'))))
  simp only [List.append_nil] at hargs
  exact ⟨_, rfl, _, _, _, [], p0 ++ (p1), [], hW', trodAll_cons_mk (shut_bool Try.underlying4 _) trodAll_mk0, hargs, rfl, hg.frame _, fun h => by cases h⟩

theorem proved : Rows.LogAheadSaid :=
  OpenClaim.holds_of_wide 6 Try.f6 rfl rfl rfl rfl rfl rfl rfl ⟨rfl, rfl, rfl, rfl, rfl⟩ rfl rfl rfl rfl rfl (by kernel_rfl) Try.func6 (by kernel_rfl)
    (of_decide_eq_true (by kernel_rfl)) (by unfold Func.isWrapper; first | (rw [if_pos (by decide +kernel)]; kernel_rfl) | (rw [if_neg (by decide +kernel)]; exact ⟨rfl, rfl⟩))
    (fun os started H enc _ => lifted os started H enc)
end Go.Proofs.Ythbleofighjjgaa.LAhead
