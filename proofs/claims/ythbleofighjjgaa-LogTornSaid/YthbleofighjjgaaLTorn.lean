/-
  LogTorn: of frames of which the last one is cut off all but that one come back, whatever the records, the cut and the bytes 0 behind; no condition.
-/
import Derived.Test.YthbleofighjjgaaLgG
import Derived.ShutString
import Derived.ChangeMaps5
namespace Go.Proofs.Ythbleofighjjgaa.LTorn
open Go.RowKit Go.Shelf Go.Deep Go.Joins Go.ChangeShapes Go.WideShapes Go.Proofs.Ythbleofighjjgaa.B Go.Proofs.Ythbleofighjjgaa.LG Go.Proofs.Ythbleofighjjgaa.OP
open Go.ChangeMaps (open_string)
attribute [local go_sem] Oper.semAt_some
/-- The sum as it is counted, with one text more. -/
def CntD (d : ByteArray) (l : List ByteArray) (k : Nat) (z : Int) : Prop := k ≤ 20 → z = ((szs (l.take k) + d.size : Nat) : Int)
set_option maxRecDepth 100000 in
set_option maxHeartbeats 8000000 in
theorem walk (W : World) (A : Option Addr) (c : Nat) (l : List ByteArray) (d : ByteArray) (q : Int) (b : UInt8) (hr : Row W A (l.flatMap stC)) (hg : (∀ x ∈ l, x.size ≤ 140737488351232) ∧ l.length ≤ 140737488351232) (hd : d.size ≤ 140737488351232) (hq : (Lit.int .u16 q).wf = true) :
    Calls Try.prog 5 #[.slice A l.length c, .string d, .int .u16 q, .int .u8 (b.toNat : Int)] W fun e W' => e = .returned (.bool true) ∧ Below W.heap.size W W' := by
  have CA := Lib.hid (awake_any W)
  have HR := Lib.hid hr
  have HG := Lib.hid hg.1
  have hb8 : b.toNat < 256 := b.toNat_lt
  obtain ⟨n, hn⟩ : ∃ n, n = b.toNat := ⟨_, rfl⟩
  have hqb := bounds_u16 hq
  obtain ⟨qn, rfl⟩ : ∃ qn : Nat, q = (qn : Int) := ⟨q.toNat, by omega⟩
  have hq16 : qn < 65536 := by omega
  clear hq hqb
  rw [← hn] at hb8 ⊢
  clear hr hn
  replace hg := hg.2
  go_enter Try.func5, Try.ntmps5
  go_wp2_with fail
  refine CA.out.mono ?_
  rintro e W1 ⟨rfl, hb1⟩
  have HB1 := Lib.hid hb1
  clear hb1 CA
  go_wp2_with fail
  go_loopw [9, 24] (fun v i wr => ∃ (k : Nat) (z : Int), k ≤ l.length ∧ i = .int .i64 (k : Int) ∧ v = .int .i64 z ∧ Hid (CntD d l k z) ∧ Hid (Below W.heap.size W wr)) (fun _ i _ => l.length - (intOf i).toNat)
  case atStart => exact ⟨0, d.size, Nat.zero_le _, rfl, rfl, Lib.hid (fun _ => by simp [szs]), HB1⟩
  case round =>
    obtain ⟨k, z, hk, rfl, rfl, HC, HB⟩ := hrel
    by_cases hlt : k < l.length
    · obtain ⟨ba, oa, rfl, hba, hca⟩ := row_at HR.out hlt
      have c1 := (HB.out.cell (p := ⟨ba, oa + k, none⟩) hba).trans hca
      have hk0 : (0 : Int) ≤ (k : Int) := Int.natCast_nonneg _
      have hk1 : (k : Int) < (l.length : Int) := by omega
      have hx := HG.out _ (mem_at hlt)
      have hnx := szs_next hlt
      clear hca
      obtain ⟨x, hxx⟩ : ∃ x, x = l[k]! := ⟨_, rfl⟩
      rw [← hxx] at c1 hx hnx
      clear hxx
      by_cases h20 : k < 20
      · have hz := HC.out (by omega)
        have hle := cnt_le HG.out (show k ≤ 20 by omega)
        have hwr : wrap64 (z + (x.size : Int)) = z + (x.size : Int) := by unfold wrap64; omega
        have HC' : Hid (CntD d l (k + 1) (z + (x.size : Int))) := Lib.hid (fun _ => by rw [hnx, hz]; omega)
        clear hz hnx hle
        go_wp2_with fail
        go_roundw
        case rel => exact ⟨k + 1, _, hlt, by go_num, rfl, Lib.hid (by rw [hwr]; exact HC'.out), HB⟩
        case measure => simp [intOf]; omega
      · clear hnx
        go_wp2_with fail
        go_roundw
        case rel => exact ⟨k + 1, _, hlt, by go_num, rfl, Lib.hid (fun h => absurd h (by omega)), HB⟩
        case measure => simp [intOf]; omega
    · obtain rfl : k = l.length := by omega
      by_cases h4 : 4096 < z
      · have d1 : decide ((4096 : Int) < z) = true := decide_eq_true h4
        go_wp2_with fail
        go_ret
        exact ⟨rfl, HB.out⟩
      · have d1 : decide ((4096 : Int) < z) = false := decide_eq_false h4
        by_cases h20 : 20 < l.length
        · have d2 : decide ((20 : Int) < (l.length : Int)) = true := decide_eq_true (by omega)
          go_wp2_with fail
          go_ret
          exact ⟨rfl, HB.out⟩
        · have d2 : decide ((20 : Int) < (l.length : Int)) = false := decide_eq_false (by omega)
          have hz := HC.out (by omega)
          rw [List.take_length] at hz
          subst hz
          have hsm : szs l ≤ 4096 := by omega
          have hsd : szs l + d.size ≤ 4096 := by omega
          rw [decide_eq_false (by omega : ¬ (4096 : Int) < ((szs l + d.size : Nat) : Int))] at d1
          have d1 : decide ((4096 : Int) < (szs l : Int) + (d.size : Int)) = false := decide_eq_false (by omega)
          have hdm : d.size ≤ 4096 := by omega
          have CJ := Lib.hid (join_any wr A c l (HR.out.below (Nat.le_refl _) HB.out) (fun r hr => by have := szs_mem hr; omega) (by omega))
          have CF := fun W => Lib.hid (frame_any W d (by omega))
          by_cases hok : ∀ r ∈ l, 1 ≤ r.size ∧ r.size ≤ 400
          · rw [join_yes hok] at CJ
            by_cases hdo : 1 ≤ d.size ∧ d.size ≤ 400
            · have hfe : frE d = (frA d, 0) := if_pos hdo
              rw [hfe] at CF
              have hcs := cat_szs l
              obtain ⟨J, hJ⟩ : ∃ J : ByteArray, J = ⟨(cat (l.map by')).toArray⟩ := ⟨_, rfl⟩
              have hJz : J.size = szs l + l.length * 8 := by rw [← by_len, hJ]; exact hcs
              obtain ⟨F, hF⟩ : ∃ F, F = frA d := ⟨_, rfl⟩
              obtain ⟨f, hf⟩ : ∃ f, f = d.size + 8 := ⟨_, rfl⟩
              have hFz : F.size = f := by rw [hF, hf]; exact fr_size d
              obtain ⟨kk, hkk⟩ : ∃ kk, kk = qn % f := ⟨_, rfl⟩
              have hkf : kk < f := by rw [hkk]; exact Nat.mod_lt _ (by omega)
              have hki : (qn : Int) % (f : Int) = (kk : Int) := by rw [hkk]; omega
              obtain ⟨zz, hzz⟩ : ∃ zz, zz = n + f - kk := ⟨_, rfl⟩
              have hzi : (n : Int) + (f : Int) - (kk : Int) = (zz : Int) := by omega
              obtain ⟨X, hX⟩ : ∃ X, F.extract 0 kk = X := ⟨_, rfl⟩
              have hXz : X.size = kk := by rw [← hX, ByteArray.size_extract]; omega
              have HSC : Hid (ScanP (by' (J ++ X ++ zeroA zz)) (l.map by')) := Lib.hid (scan_tail hok (t := (frL (by' d)).take kk ++ List.replicate zz 0)
                (by rw [by_append, by_append, hJ, ← hX, by_cut, hF, List.append_assoc]; rfl) (nof_torn ((ok_size d).2 hdo) (by rw [fr_len, by_len]; omega)))
              have hzs := zero_size zz
              have CS := fun W => Lib.hid (scan_any W (J ++ X ++ zeroA zz) (by rw [ByteArray.size_append, ByteArray.size_append]; omega))
              rw [← hJ] at CJ
              rw [← hF] at CF
              have HCS := Lib.hid hcs
              have hb4 : zz ≤ 700 := by omega
              have hf4 : f ≤ 408 := by omega
              have hJb : J.size ≤ 9000 := by omega
              have HJZ := Lib.hid hJz
              have hwn : IntKind.i64.wrap (n : Int) = n := by simp [IntKind.wrap, IntKind.bits, IntKind.signed]; omega
              have hwf : IntKind.i64.wrap ((n : Int) + (f : Int)) = (n : Int) + f := by simp [IntKind.wrap, IntKind.bits, IntKind.signed]; omega
              have hwz : IntKind.i64.wrap (zz : Int) = zz := by simp [IntKind.wrap, IntKind.bits, IntKind.signed]; omega
              have hkg : ¬ ((f : Int) < (kk : Int)) := by omega
              clear hJ hF hcs hkk hzz hf hJz
              go_wp2_with fail
              refine CJ.out.mono ?_
              rintro e W2 ⟨rfl, hb2⟩
              have HB2 := Lib.hid (HB.out.trans (hb2.mono HB.out.size))
              clear hb2 CJ
              go_wp2_with fail
              refine (CF _).out.mono ?_
              rintro e W3 ⟨rfl, hb3⟩
              have HB3 := Lib.hid (HB2.out.trans (hb3.mono HB2.out.size))
              clear hb3 CF
              go_wp2_with fail
              --«torn»
              refine wp_region_any (by kernel_rfl) ?_
              refine wpAny_take (i := 0) (v := .string J) rfl (by kernel_rfl) (by kernel_rfl) (by kernel_rfl) (fun _ _ _ h => h) (Or.inl ⟨by rfl, fun W9 => by go_simp; try with_reducible rfl⟩) ?_
              try simp only [Act.put, List.setIfInBounds_toArray]
              try simp only [List.set_cons_zero, List.set_cons_succ]
              try simp only [List.getElem_toArray]
              repeat (first | simp only [List.getElem_cons_zero] | simp only [List.getElem_cons_succ])
              try simp only [List.set_cons_zero, List.set_cons_succ]
              refine wpAny_take (i := 1) (v := .string F) rfl (by kernel_rfl) (by kernel_rfl) (by kernel_rfl) (fun _ _ _ h => h) (Or.inl ⟨by rfl, fun W9 => by go_simp; try with_reducible rfl⟩) ?_
              try simp only [Act.put, List.setIfInBounds_toArray]
              try simp only [List.set_cons_zero, List.set_cons_succ]
              try simp only [List.getElem_toArray]
              repeat (first | simp only [List.getElem_cons_zero] | simp only [List.getElem_cons_succ])
              try simp only [List.set_cons_zero, List.set_cons_succ]
              refine wpAny_take (i := 2) (v := .int .i64 kk) rfl (by kernel_rfl) (by kernel_rfl) (by kernel_rfl) (fun _ _ _ h => h) (Or.inl ⟨by rfl, fun W9 => by go_simp; try with_reducible rfl⟩) ?_
              try simp only [Act.put, List.setIfInBounds_toArray]
              try simp only [List.set_cons_zero, List.set_cons_succ]
              try simp only [List.getElem_toArray]
              repeat (first | simp only [List.getElem_cons_zero] | simp only [List.getElem_cons_succ])
              try simp only [List.set_cons_zero, List.set_cons_succ]
              refine wpAny_take (i := 3) (v := .string X) rfl (by kernel_rfl) (by kernel_rfl) (by kernel_rfl) (fun _ _ _ h => h) (Or.inl ⟨by rfl, fun W9 => by go_simp; try with_reducible rfl⟩) ?_
              try simp only [Act.put, List.setIfInBounds_toArray]
              try simp only [List.set_cons_zero, List.set_cons_succ]
              try simp only [List.getElem_toArray]
              repeat (first | simp only [List.getElem_cons_zero] | simp only [List.getElem_cons_succ])
              try simp only [List.set_cons_zero, List.set_cons_succ]
              refine wpAny_take (i := 4) (v := .string (J ++ X)) rfl (by kernel_rfl) (by kernel_rfl) (by kernel_rfl) (fun _ _ _ h => h) (Or.inl ⟨by rfl, fun W9 => by go_simp; omega⟩) ?_
              try simp only [Act.put, List.setIfInBounds_toArray]
              try simp only [List.set_cons_zero, List.set_cons_succ]
              try simp only [List.getElem_toArray]
              repeat (first | simp only [List.getElem_cons_zero] | simp only [List.getElem_cons_succ])
              try simp only [List.set_cons_zero, List.set_cons_succ]
              refine wpAny_take (i := 5) (v := .int .u8 n) rfl (by kernel_rfl) (by kernel_rfl) (by kernel_rfl) (fun _ _ _ h => h) (Or.inl ⟨by rfl, fun W9 => by go_simp; try with_reducible rfl⟩) ?_
              try simp only [Act.put, List.setIfInBounds_toArray]
              try simp only [List.set_cons_zero, List.set_cons_succ]
              try simp only [List.getElem_toArray]
              repeat (first | simp only [List.getElem_cons_zero] | simp only [List.getElem_cons_succ])
              try simp only [List.set_cons_zero, List.set_cons_succ]
              refine wpAny_take (i := 6) (v := .int .i64 n) rfl (by kernel_rfl) (by kernel_rfl) (by kernel_rfl) (fun _ _ _ h => h) (Or.inl ⟨by rfl, fun W9 => by go_simp; try with_reducible rfl⟩) ?_
              try simp only [Act.put, List.setIfInBounds_toArray]
              try simp only [List.set_cons_zero, List.set_cons_succ]
              try simp only [List.getElem_toArray]
              repeat (first | simp only [List.getElem_cons_zero] | simp only [List.getElem_cons_succ])
              try simp only [List.set_cons_zero, List.set_cons_succ]
              refine wpAny_take (i := 7) (v := .string F) rfl (by kernel_rfl) (by kernel_rfl) (by kernel_rfl) (fun _ _ _ h => h) (Or.inl ⟨by rfl, fun W9 => by go_simp; try with_reducible rfl⟩) ?_
              try simp only [Act.put, List.setIfInBounds_toArray]
              try simp only [List.set_cons_zero, List.set_cons_succ]
              try simp only [List.getElem_toArray]
              repeat (first | simp only [List.getElem_cons_zero] | simp only [List.getElem_cons_succ])
              try simp only [List.set_cons_zero, List.set_cons_succ]
              refine wpAny_take (i := 8) (v := .int .i64 f) rfl (by kernel_rfl) (by kernel_rfl) (by kernel_rfl) (fun _ _ _ h => h) (Or.inl ⟨by rfl, fun W9 => by go_simp; try with_reducible rfl⟩) ?_
              try simp only [Act.put, List.setIfInBounds_toArray]
              try simp only [List.set_cons_zero, List.set_cons_succ]
              try simp only [List.getElem_toArray]
              repeat (first | simp only [List.getElem_cons_zero] | simp only [List.getElem_cons_succ])
              try simp only [List.set_cons_zero, List.set_cons_succ]
              refine wpAny_take (i := 9) (v := .int .i64 ((n : Int) + f)) rfl (by kernel_rfl) (by kernel_rfl) (by kernel_rfl) (fun _ _ _ h => h) (Or.inl ⟨by rfl, fun W9 => by go_simp; try with_reducible rfl⟩) ?_
              try simp only [Act.put, List.setIfInBounds_toArray]
              try simp only [List.set_cons_zero, List.set_cons_succ]
              try simp only [List.getElem_toArray]
              repeat (first | simp only [List.getElem_cons_zero] | simp only [List.getElem_cons_succ])
              try simp only [List.set_cons_zero, List.set_cons_succ]
              refine wpAny_take (i := 10) (v := .int .i64 kk) rfl (by kernel_rfl) (by kernel_rfl) (by kernel_rfl) (fun _ _ _ h => h) (Or.inl ⟨by rfl, fun W9 => by go_simp; try with_reducible rfl⟩) ?_
              try simp only [Act.put, List.setIfInBounds_toArray]
              try simp only [List.set_cons_zero, List.set_cons_succ]
              try simp only [List.getElem_toArray]
              repeat (first | simp only [List.getElem_cons_zero] | simp only [List.getElem_cons_succ])
              try simp only [List.set_cons_zero, List.set_cons_succ]
              refine wpAny_take (i := 11) (v := .int .i64 zz) rfl (by kernel_rfl) (by kernel_rfl) (by kernel_rfl) (fun _ _ _ h => h) (Or.inl ⟨by rfl, fun W9 => by go_simp; try with_reducible rfl⟩) ?_
              try simp only [Act.put, List.setIfInBounds_toArray]
              try simp only [List.set_cons_zero, List.set_cons_succ]
              try simp only [List.getElem_toArray]
              repeat (first | simp only [List.getElem_cons_zero] | simp only [List.getElem_cons_succ])
              try simp only [List.set_cons_zero, List.set_cons_succ]
              refine wpAny_ready (rs := [12]) (by kernel_rfl) (by simp) ?_
              refine AllReady.cons rfl (fun K hK => ?_) AllReady.nil
              go_simp
              rw [run_zero _ .i64 zz (by omega)]
              go_simp
              refine hK _ _ ?_
              clear hK K
              try simp only [Act.put, List.setIfInBounds_toArray]
              try simp only [List.set_cons_zero, List.set_cons_succ]
              try simp only [List.getElem_toArray]
              repeat (first | simp only [List.getElem_cons_zero] | simp only [List.getElem_cons_succ])
              try simp only [List.set_cons_zero, List.set_cons_succ]
              obtain ⟨W4, hW4⟩ : ∃ W4 : World, W4 = World.drew (W3.alloc (.cells (madeCells #[.int .u8 0] zz) 5)) := ⟨_, rfl⟩
              have HN4 : Hid (W4.heap[W3.heap.size]? = some (.cells (madeCells #[.int .u8 0] zz) 5 (0, 0))) := Lib.hid (by rw [hW4]; exact heap_new W3 _)
              have HB4 : Hid (Below W.heap.size W W4) := Lib.hid (by rw [hW4]; exact below_draws (HB3.out.alloc HB3.out.size _) 1)
              rw [← hW4]
              clear hW4
              have hcv : (convert 34 9 (.slice (some ⟨W3.heap.size, 0, none⟩) zz zz)).run Try.prog W4 = .ok (.string (zeroA zz)) W4 := run_conv 34 9 5 Try.underlying34 Try.underlying5 Try.underlying9 W3.heap.size zz zz HN4.out (List.replicate zz 0) List.length_replicate (made_zero zz)
              refine wpAny_ready (rs := [13]) (by kernel_rfl) (by simp) ?_
              refine AllReady.cons rfl (fun K hK => ?_) AllReady.nil
              go_simp
              refine hK _ _ ?_
              clear hK K
              clear hcv
              try simp only [Act.put, List.setIfInBounds_toArray]
              try simp only [List.set_cons_zero, List.set_cons_succ]
              try simp only [List.getElem_toArray]
              repeat (first | simp only [List.getElem_cons_zero] | simp only [List.getElem_cons_succ])
              try simp only [List.set_cons_zero, List.set_cons_succ]
              refine wpAny_take (i := 14) (v := .string (J ++ X ++ zeroA zz)) rfl (by kernel_rfl) (by kernel_rfl) (by kernel_rfl) (fun _ _ _ h => h) (Or.inl ⟨by rfl, fun W9 => by go_simp; omega⟩) ?_
              try simp only [Act.put, List.setIfInBounds_toArray]
              try simp only [List.set_cons_zero, List.set_cons_succ]
              try simp only [List.getElem_toArray]
              repeat (first | simp only [List.getElem_cons_zero] | simp only [List.getElem_cons_succ])
              try simp only [List.set_cons_zero, List.set_cons_succ]
              refine wpAny_ready (rs := [15]) (by kernel_rfl) (by simp) ?_
              refine AllReady.cons rfl (fun K hK => ?_) AllReady.nil
              go_simp
              refine (CS _).out.mono ?_
              rintro e W5 ⟨hb5, v5, m, rfl, ho5, hs5⟩
              obtain rfl : l = m := map_by (scan_same HSC.out hs5)
              have HB5 := Lib.hid (HB4.out.trans (hb5.mono HB4.out.size))
              rw [HCS.out, ← HJZ.out]
              obtain ⟨A5, c5, rfl, hr5⟩ := row_shut ho5
              have HR5 := Lib.hid hr5
              clear hb5 hs5 ho5 hr5
              refine hK _ _ ?_
              clear hK K
              try simp only [Act.put, List.setIfInBounds_toArray]
              try simp only [List.set_cons_zero, List.set_cons_succ]
              try simp only [List.getElem_toArray]
              repeat (first | simp only [List.getElem_cons_zero] | simp only [List.getElem_cons_succ])
              try simp only [List.set_cons_zero, List.set_cons_succ]
              refine wpAny_take (i := 16) (v := .tuple #[.slice A5 l.length c5, .int .i64 (J.size : Nat)]) rfl (by kernel_rfl) (by kernel_rfl) (by kernel_rfl) (fun _ _ _ h => h) (Or.inl ⟨by rfl, fun W9 => by go_simp; try with_reducible rfl⟩) ?_
              try simp only [Act.put, List.setIfInBounds_toArray]
              try simp only [List.set_cons_zero, List.set_cons_succ]
              try simp only [List.getElem_toArray]
              repeat (first | simp only [List.getElem_cons_zero] | simp only [List.getElem_cons_succ])
              try simp only [List.set_cons_zero, List.set_cons_succ]
              refine wpAny_take (i := 17) (v := .slice A5 l.length c5) rfl (by kernel_rfl) (by kernel_rfl) (by kernel_rfl) (fun _ _ _ h => h) (Or.inl ⟨by rfl, fun W9 => by go_simp; try with_reducible rfl⟩) ?_
              try simp only [Act.put, List.setIfInBounds_toArray]
              try simp only [List.set_cons_zero, List.set_cons_succ]
              try simp only [List.getElem_toArray]
              repeat (first | simp only [List.getElem_cons_zero] | simp only [List.getElem_cons_succ])
              try simp only [List.set_cons_zero, List.set_cons_succ]
              refine wpAny_take (i := 18) (v := .int .i64 (J.size : Nat)) rfl (by kernel_rfl) (by kernel_rfl) (by kernel_rfl) (fun _ _ _ h => h) (Or.inl ⟨by rfl, fun W9 => by go_simp; try with_reducible rfl⟩) ?_
              try simp only [Act.put, List.setIfInBounds_toArray]
              try simp only [List.set_cons_zero, List.set_cons_succ]
              try simp only [List.getElem_toArray]
              repeat (first | simp only [List.getElem_cons_zero] | simp only [List.getElem_cons_succ])
              try simp only [List.set_cons_zero, List.set_cons_succ]
              refine wpAny_ready (rs := [19]) (by kernel_rfl) (by simp) ?_
              refine AllReady.cons rfl (fun K hK => ?_) AllReady.nil
              go_simp
              refine hK _ _ ?_
              clear hK K
              refine wpAny_ready (rs := [20]) (by kernel_rfl) (by simp) ?_
              refine AllReady.cons rfl (fun K hK => ?_) AllReady.nil
              go_simp
              refine hK _ _ ?_
              clear hK K
              refine wpAny_done (by kernel_rfl) ?_ _
              go_wp2_with fail
              refine (same_any W5 A A5 c c5 l l (HR.out.below (Nat.le_refl _) HB5.out) HR5.out (by omega)).mono ?_
              rintro e W6 ⟨he, hb6⟩
              have hsm2 : decide (l = l) = true := decide_eq_true rfl
              rw [hsm2] at he
              subst he
              have HB6 := Lib.hid (HB5.out.trans (hb6.mono HB5.out.size))
              clear hb6 hsm2
              go_wp2_with fail
              go_ret
              exact ⟨rfl, HB6.out⟩
              --«torn end»
            · have hfe : frE d = (⟨#[]⟩, 3) := if_neg hdo
              rw [hfe] at CF
              obtain ⟨J, hJ⟩ : ∃ J : ByteArray, J = ⟨(cat (l.map by')).toArray⟩ := ⟨_, rfl⟩
              rw [← hJ] at CJ
              clear hJ
              go_wp2_with fail
              refine CJ.out.mono ?_
              rintro e W2 ⟨rfl, hb2⟩
              have HB2 := Lib.hid (HB.out.trans (hb2.mono HB.out.size))
              clear hb2 CJ
              go_wp2_with fail
              refine (CF _).out.mono ?_
              rintro e W3 ⟨rfl, hb3⟩
              have HB3 := Lib.hid (HB2.out.trans (hb3.mono HB2.out.size))
              clear hb3 CF
              go_wp2_with fail
              go_ret
              exact ⟨rfl, HB3.out⟩
          · rw [join_no hok] at CJ
            obtain ⟨p, r⟩ := frE d
            go_wp2_with fail
            refine CJ.out.mono ?_
            rintro e W2 ⟨rfl, hb2⟩
            have HB2 := Lib.hid (HB.out.trans (hb2.mono HB.out.size))
            clear hb2 CJ
            go_wp2_with fail
            refine (CF _).out.mono ?_
            rintro e W3 ⟨rfl, hb3⟩
            have HB3 := Lib.hid (HB2.out.trans (hb3.mono HB2.out.size))
            clear hb3 CF
            go_wp2_with fail
            go_ret
            exact ⟨rfl, HB3.out⟩

theorem own : ownKnob Try.prog.godebug = none := by kernel_rfl
set_option maxRecDepth 100000 in
theorem lifted (os : Os) (started : os.Started) (H : Type) (enc : TypeId × Value → H) :
    ReturnsInHanded {} Try.checked os 5 .any (Rows.logTornSpec.pre6 enc Try.prog Try.f5 Rows.logTornRow.domain false) (Rows.logTornSpec.post enc Try.prog Try.f5 false true false false) := by
  refine returnsInHanded_of_change_sized (C := Try.checked) own started (by kernel_rfl) Try.func5
    (ChangeSpec.witness6 (enc := enc) (C := Try.checked) false ⟨#[], #[.slice none 0 0, .string ByteArray.empty, .int .u16 0, .int .u8 0], []⟩ 8 (by kernel_rfl) (by kernel_rfl) (by kernel_rfl) (by kernel_rfl)) ?_
  intro W base args ds gs before hval0 hW _ hsz0 _
  have hsz : (DataW.weightsEach Try.prog (Try.f5.params.toList ++ Rows.logTornSpec.plain.varTypes Try.prog) (ds ++ gs)).all (· ≤ reachBytes) = true := hsz0
  have hval : ∀ (j : Nat) t v, Try.f5.params[j]? = some t → args[j]? = some v → Value.okWide Try.prog W .any base t v := hval0
  have hW' := hW
  obtain ⟨p, q, hA0, hV, rfl, _, _⟩ := hW
  have hA : DataW.TrodAll enc Try.prog W 0 (fun _ => true) true Try.f5.params.toList args.toList ds p := hA0
  rw [Try.params5] at hA hval hsz
  obtain ⟨v0, vs0, d0, ds0, p0, q0, hargs, rfl, rfl, h0, r0⟩ := trodAll_cons hA
  obtain ⟨v1, vs1, d1, ds1, p1, q1, e1, rfl, rfl, h1, r1⟩ := trodAll_cons r0
  obtain ⟨v2, vs2, d2, ds2, p2, q2, e2, rfl, rfl, h2, r2⟩ := trodAll_cons r1
  obtain ⟨v3, vs3, d3, ds3, p3, q3, e3, rfl, rfl, h3, r3⟩ := trodAll_cons r2
  obtain ⟨rfl, rfl, rfl⟩ := trodAll_nil r3
  subst e3
  subst e2
  subst e1
  obtain rfl : args = #[v0, v1, v2, v3] := by cases args; simp_all
  obtain ⟨rfl, rfl⟩ := trodVars_none hV
  have hw0 : Wt Try.prog 26 d0 := Wt.of hsz (j := 0) rfl rfl
  obtain ⟨A0, c0, l0, rfl, hr0, hg0⟩ := open_strs (hval 0 _ v0 rfl rfl) h0 hw0
  have hw1 : Wt Try.prog 9 d1 := Wt.of hsz (j := 1) rfl rfl
  obtain ⟨a1, rfl, hd1, -, -⟩ := open_string Try.underlying9 (hval 1 9 v1 rfl rfl) h1
  have w1 : a1.size ≤ 140737488351232 := by rw [hd1] at hw1; have := hw1.str; simpa using this
  obtain ⟨n2, rfl, hw2⟩ := open_intk Try.underlying36 (hval 2 _ v2 rfl rfl) h2
  obtain ⟨b3, rfl⟩ := open_u8 (hval 3 _ v3 rfl rfl) h3
  clear hA0 hval0 hsz0
  simp only [List.append_nil] at hW'
  have hlt0 := fun x hx => hW'.lt x hx
  refine (walk W A0 c0 l0 a1 n2 b3 hr0 hg0 w1 hw2).mono fun e W' ⟨he2, hg⟩ => ?_
  subst he2
  have hargs := (trodAll_cons_mk (Below.trod progLaid (by kernel_rfl) (of_decide_eq_true (by kernel_rfl)) h0 hg (fun x hx => hlt0 x (List.mem_append_left _ hx))) (trodAll_cons_mk (Below.trod progLaid (by kernel_rfl) (of_decide_eq_true (by kernel_rfl)) h1 hg (fun x hx => hlt0 x (List.mem_append_right _ (List.mem_append_left _ hx)))) (trodAll_cons_mk (Below.trod progLaid (by kernel_rfl) (of_decide_eq_true (by kernel_rfl)) h2 hg (fun x hx => hlt0 x (List.mem_append_right _ (List.mem_append_right _ (List.mem_append_left _ hx))))) (trodAll_cons_mk (Below.trod progLaid (by kernel_rfl) (of_decide_eq_true (by kernel_rfl)) h3 hg (fun x hx => hlt0 x (List.mem_append_right _ (List.mem_append_right _ (List.mem_append_right _ (hx)))))) (trodAll_mk0 (enc := enc) (P := Try.prog) (w := W'))))))
  simp only [List.append_nil] at hargs
  exact ⟨_, rfl, _, _, _, [], p0 ++ (p1 ++ (p2 ++ (p3))), [], hW', trodAll_cons_mk (shut_bool Try.underlying4 _) trodAll_mk0, hargs, rfl, hg.frame _, fun h => by cases h⟩

theorem proved : Rows.LogTornSaid :=
  OpenClaim.holds_of_wide 5 Try.f5 rfl rfl rfl rfl rfl rfl rfl ⟨rfl, rfl, rfl, rfl, rfl⟩ rfl rfl rfl rfl rfl (by kernel_rfl) Try.func5 (by kernel_rfl)
    (of_decide_eq_true (by kernel_rfl)) (by unfold Func.isWrapper; first | (rw [if_pos (by decide +kernel)]; kernel_rfl) | (rw [if_neg (by decide +kernel)]; exact ⟨rfl, rfl⟩))
    (fun os started H enc _ => lifted os started H enc)
end Go.Proofs.Ythbleofighjjgaa.LTorn
