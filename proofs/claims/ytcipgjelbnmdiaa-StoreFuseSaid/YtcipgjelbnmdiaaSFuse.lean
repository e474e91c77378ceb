/-
  StoreFuse: just so many writes as the fuse says are whole; refused ones don't count: whatever the fuse, whichever may not be; no condition.
-/
import Derived.Test.YtcipgjelbnmdiaaSoI
namespace Go.Proofs.Ytcipgjelbnmdiaa.SFuse
open Go.RowKit Go.Shelf Go.Deep Go.Joins Go.ChangeShapes Go.WideShapes Go.Proofs.Ytcipgjelbnmdiaa.B Go.Proofs.Ytcipgjelbnmdiaa.ST Go.Proofs.Ytcipgjelbnmdiaa.OP
attribute [local go_sem] Oper.semAt_some

/-- What stands between two rounds. -/
structure FI (W : World) (sb g c n j : Nat) (w : World) : Prop where
  b : Below W.heap.size W w
  h : ∃ L : List Bk, L.length = 2 ∧ SB w sb g c L ⟨⟨true, (n : Int) - (j : Int), 5⟩, false, (j : Int)⟩
  l : W.heap.size ≤ sb ∧ W.heap.size ≤ g
theorem FI.k2 {W : World} {sb g c n j j' : Nat} {w w' : World} (h : FI W sb g c n j w) (hk : K2 sb g w w') {L : List Bk} (hl : L.length = 2) (hs : SB w' sb g c L ⟨⟨true, (n : Int) - (j' : Int), 5⟩, false, (j' : Int)⟩) : FI W sb g c n j' w' :=
  ⟨hk.below h.b h.l.1 h.l.2 h.b.size, ⟨L, hl, hs⟩, h.l⟩
theorem wr_ref (L : List Bk) (f : Fs) (i : Int) (d : ByteArray) (hL : L.length = 2) (hd : f.down = false) (h : 2 ≤ i ∨ 0 ≤ i ∧ i < 2 ∧ d.size ≠ 32) : (wrS L f i d).1 = (if 2 ≤ i then 3 else 1) ∧ (wrS L f i d).2 = (L, f) := by
  have hr : reachE L.length f.down i = if 2 ≤ i then 3 else 0 := by
    unfold reachE
    rw [hd, if_neg (by decide), hL]
    rcases h with h | ⟨h1, h2, _⟩
    · rw [if_pos (.inr h), if_pos h]
    · rw [if_neg (by omega), if_neg (by omega)]
  unfold wrS
  rw [hr]
  rcases h with h | ⟨h1, h2, h3⟩
  · rw [if_pos h, if_pos (by decide)]; exact ⟨by rw [if_pos h], rfl⟩
  · rw [if_neg (by omega : ¬ (2 : Int) ≤ i), if_neg (by decide), if_pos h3, if_neg (by omega)]; exact ⟨rfl, rfl⟩
theorem wr_x {L : List Bk} {n j : Nat} (hL : L.length = 2) {k : Nat} (hk : k < 2) (d : ByteArray) (hd : d.size = 32) :
    (n ≤ j → j ≤ n → (wrS L ⟨⟨true, (n : Int) - (j : Int), 5⟩, false, (j : Int)⟩ (k : Int) d).1 = 16 ∧ (wrS L ⟨⟨true, (n : Int) - (j : Int), 5⟩, false, (j : Int)⟩ (k : Int) d).2.2 = ⟨⟨true, (n : Int) - (j : Int), 5⟩, true, (j : Int)⟩) ∧
    (j < n → (wrS L ⟨⟨true, (n : Int) - (j : Int), 5⟩, false, (j : Int)⟩ (k : Int) d).1 = 0 ∧ (wrS L ⟨⟨true, (n : Int) - (j : Int), 5⟩, false, (j : Int)⟩ (k : Int) d).2.2 = ⟨⟨true, (n : Int) - ((j + 1 : Nat) : Int), 5⟩, false, ((j + 1 : Nat) : Int)⟩) := by
  have hr : reachE L.length false (k : Int) = 0 := by unfold reachE; rw [if_neg (by decide), hL, if_neg (by omega)]
  constructor
  · intro h1 h2
    have ht : tearB ⟨true, (n : Int) - (j : Int), 5⟩ = true := by unfold tearB; simp; omega
    unfold wrS
    simp only [hr]
    rw [if_neg (by decide), if_neg (by simpa using hd), if_pos ht]
    exact ⟨rfl, rfl⟩
  · intro h1
    have ht : ¬ tearB ⟨true, (n : Int) - (j : Int), 5⟩ = true := by unfold tearB; simp; omega
    unfold wrS
    simp only [hr]
    rw [if_neg (by decide), if_neg (by simpa using hd), if_neg ht]
    refine ⟨rfl, ?_⟩
    unfold tickF
    simp only [if_true]
    rw [if_neg (by omega), show (n : Int) - (j : Int) - 1 = (n : Int) - ((j + 1 : Nat) : Int) by omega, show (j : Int) + 1 = ((j + 1 : Nat) : Int) by omega]
set_option maxRecDepth 100000 in
set_option maxHeartbeats 8000000 in
theorem walk (W : World) (b : UInt8) (A : Option Addr) (c : Nat) (l : List Bool) (hr : Row W A (l.flatMap boC)) :
    Calls Try.prog 7 #[.int .u8 (b.toNat : Int), .slice A l.length c] W fun e W' => e = .returned (.bool true) ∧ Below W.heap.size W W' := by
  have CA := Lib.hid (awake_any W)
  have HR := Lib.hid hr
  clear hr
  have hb0 : b.toNat < 256 := b.toNat_lt
  obtain ⟨bn, hbn⟩ : ∃ bn, bn = b.toNat := ⟨_, rfl⟩
  rw [← hbn] at hb0 ⊢
  clear hbn
  obtain ⟨n, hn⟩ : ∃ n, n = bn % 60 := ⟨_, rfl⟩
  have hn2 : (bn : Int) % 60 = (n : Int) := by omega
  have hn3 : n < 60 := by omega
  clear hn
  go_enter Try.func7, Try.ntmps7
  go_wp2_with fail
  refine CA.out.mono ?_
  rintro e W1 ⟨rfl, hb1⟩
  have HB1 := Lib.hid hb1
  clear hb1 CA
  go_wp2_with fail
  refine (new_any W1 2 (by decide) (by decide)).mono ?_
  rintro e W2 ⟨sb, g, cp, rfl, hs, hb2, h1, h2⟩
  have hl1 : W.heap.size ≤ sb := Nat.le_trans HB1.out.size h1
  have hl2 : W.heap.size ≤ g := Nat.le_trans HB1.out.size h2
  have HB2 := Lib.hid (HB1.out.trans (hb2.mono HB1.out.size))
  have HS2 := Lib.hid hs
  clear hs hb2 h1 h2 HB1
  go_wp2_with fail
  refine (fuse_any W2 sb g cp _ _ HS2.out (n : Int) 5 (by omega) (by decide)).mono ?_
  rintro e W3 ⟨rfl, hs, hk⟩
  have HI0 : Hid (FI W sb g cp n 0 W3) := Lib.hid ⟨hk.below HB2.out hl1 hl2 HB2.out.size, ⟨_, rfl, by
    have e : mkF (n : Int) 5 = ⟨true, (n : Int) - ((0 : Nat) : Int), 5⟩ := by unfold mkF; rw [if_neg (by omega), show max (5 : Int) 0 % 33 = 5 from rfl]; simp
    rw [e] at hs; exact hs⟩, hl1, hl2⟩
  clear hs hk HS2 HB2
  go_wp2_with fail
  go_loopw [8, 9] (fun v i wr => ∃ k j : Nat, k ≤ 70 ∧ j ≤ n ∧ i = .int .i64 (k : Int) ∧ v = .int .i64 (j : Int) ∧ Hid (FI W sb g cp n j wr)) (fun _ i _ => 70 - (intOf i).toNat)
  case atStart => exact ⟨0, 0, Nat.zero_le _, Nat.zero_le _, rfl, rfl, HI0⟩
  case round =>
    clear HI0
    obtain ⟨k, j, hk, hj, rfl, rfl, HI⟩ := hrel
    obtain ⟨L, hL, hS⟩ := HI.out.h
    have HS := Lib.hid hS
    have HL := Lib.hid hL
    clear hL hS
    by_cases hk7 : k < 70
    · have hk8 : (k : Int) < 70 := by omega
      have hk0 : (0 : Int) ≤ (k : Int) := Int.natCast_nonneg _
      have CB : ∀ W', Calls Try.prog 28 #[.string ⟨#[]⟩] W' fun e w' => e = .returned (.string (blk ⟨#[]⟩)) ∧ W' = w' := fun W' => block_any W' ⟨#[]⟩ (by decide)
      have CX : ∀ W', Calls Try.prog 28 #[.string ⟨#[120]⟩] W' fun e w' => e = .returned (.string (blk ⟨#[120]⟩)) ∧ W' = w' := fun W' => block_any W' ⟨#[120]⟩ (by decide)
      have HCB := Lib.hid CB
      have HCX := Lib.hid CX
      clear CB CX
      obtain ⟨E0, hE0⟩ : ∃ E0, E0 = blk ⟨#[]⟩ := ⟨_, rfl⟩
      obtain ⟨X0, hX0⟩ : ∃ X0, X0 = blk ⟨#[120]⟩ := ⟨_, rfl⟩
      have HXS : Hid (X0.size = 32) := Lib.hid (by rw [hX0]; exact blk_size _)
      rw [← hE0] at HCB
      rw [← hX0] at HCX
      clear hE0 hX0
      obtain ⟨kk, hkk⟩ : ∃ kk, kk = k % 2 := ⟨_, rfl⟩
      have hkk2 : (k : Int) % 2 = (kk : Int) := by omega
      have hkk3 : kk < 2 := by omega
      clear hkk
      have HX := Lib.hid (wr_x (n := n) (j := j) HL.out hkk3 X0 HXS.out)
      have CW := Lib.hid (write_any wr sb g cp L _ HS.out (kk : Int) X0 ⟨show (0 : Int) ≤ (j : Int) by omega, show (j : Int) ≤ 1000000 by omega⟩)
      by_cases hlt : k < l.length
      · have hlt2 : (k : Int) < (l.length : Int) := by omega
        obtain ⟨bk, off, hA, hbk, c0⟩ := (HR.out.below (Nat.le_refl _) HI.out.b).at_ (k := 1) (fun _ => rfl) (by omega) hlt
        have x0 : wr.cell? ⟨bk, off + k, none⟩ = some (.bool l[k]!) := by have := c0 0 _ rfl; simpa using this
        obtain rfl : A = some ⟨bk, off, none⟩ := hA
        obtain ⟨q, hq⟩ : ∃ q, q = l[k]! := ⟨_, rfl⟩
        rw [← hq] at x0
        clear hq c0
        cases q with
        | true =>
          have hf1 := wr_ref L ⟨⟨true, (n : Int) - (j : Int), 5⟩, false, (j : Int)⟩ 2 E0 HL.out rfl (.inl (Int.le_refl _))
          have hf2 := wr_ref L ⟨⟨true, (n : Int) - (j : Int), 5⟩, false, (j : Int)⟩ 0 ⟨#[115, 104, 111, 114, 116]⟩ HL.out rfl (.inr ⟨by decide, by decide, by decide⟩)
          have HF1 := Lib.hid hf1
          have HF2 := Lib.hid hf2
          clear hf1 hf2 CW HX
          go_wp2_with fail
          refine (HCB.out _).mono ?_
          rintro e wb ⟨rfl, hw⟩
          subst hw
          go_wp2_with fail
          refine (write_any _ sb g cp L _ HS.out 2 E0 ⟨show (0 : Int) ≤ (j : Int) by omega, show (j : Int) ≤ 1000000 by omega⟩).mono ?_
          rintro e w2 ⟨he, hs, hk2⟩
          rw [HF1.out.1, if_pos (by decide)] at he
          subst he
          rw [HF1.out.2] at hs
          have HS2 := Lib.hid hs
          have HK2 := Lib.hid hk2
          clear hs hk2
          go_wp2_with fail
          refine (write_any _ sb g cp L _ HS2.out 0 ⟨#[115, 104, 111, 114, 116]⟩ ⟨show (0 : Int) ≤ (j : Int) by omega, show (j : Int) ≤ 1000000 by omega⟩).mono ?_
          rintro e w3 ⟨he, hs, hk2⟩
          rw [HF2.out.1, if_neg (by decide)] at he
          subst he
          rw [HF2.out.2] at hs
          have HI3 : Hid (FI W sb g cp n j w3) := Lib.hid (HI.out.k2 (HK2.out.trans hk2) HL.out hs)
          clear hs hk2
          go_wp2_with fail
          go_roundw
          case rel => exact ⟨k + 1, j, hk7, hj, by go_num, rfl, HI3⟩
          case measure => simp [intOf]; omega
        | false =>
          by_cases hjn : j < n
          · obtain ⟨r1, r2⟩ := HX.out.2 hjn
            have HR1 := Lib.hid r1
            have HR2 := Lib.hid r2
            have hjn1 : j + 1 ≤ n := hjn
            clear r1 r2
            go_wp2_with fail
            refine (HCX.out _).mono ?_
            rintro e wb ⟨rfl, hw⟩
            subst hw
            go_wp2_with fail
            refine CW.out.mono ?_
            rintro e w2 ⟨he, hs, hk2⟩
            rw [HR1.out] at he
            subst he
            rw [HR2.out] at hs
            have HI2 : Hid (FI W sb g cp n (j + 1) w2) := Lib.hid (HI.out.k2 hk2 ((wrS_len _ _ _ _).trans HL.out) hs)
            clear hs hk2 CW HX
            go_wp2_with fail
            go_roundw
            case rel => exact ⟨k + 1, j + 1, hk7, hjn1, by go_num, by go_num, HI2⟩
            case measure => simp [intOf]; omega
          · obtain rfl : j = n := by omega
            obtain ⟨r1, r2⟩ := HX.out.1 (Nat.le_refl _) (Nat.le_refl _)
            have HR1 := Lib.hid r1
            have HR2 := Lib.hid r2
            clear r1 r2
            go_wp2_with fail
            refine (HCX.out _).mono ?_
            rintro e wb ⟨rfl, hw⟩
            subst hw
            go_wp2_with fail
            refine CW.out.mono ?_
            rintro e w2 ⟨he, hs, hk2⟩
            rw [HR1.out] at he
            subst he
            rw [HR2.out] at hs
            have HS2 := Lib.hid hs
            have HB2 := Lib.hid (hk2.below HI.out.b HI.out.l.1 HI.out.l.2 HI.out.b.size)
            clear hs hk2 CW HX
            go_wp2_with fail
            refine (down_any w2 sb g cp _ _ HS2.out).mono ?_
            rintro e wd ⟨rfl, hw⟩
            subst hw
            go_wp2_with fail
            refine (writes_any w2 sb g cp _ _ HS2.out).mono ?_
            rintro e wd ⟨rfl, hw⟩
            subst hw
            go_wp2_with fail
            go_ret
            exact ⟨rfl, HB2.out⟩
      · have hlt2 : ¬ (k : Int) < (l.length : Int) := by omega
        have hlt3 : decide ((k : Int) < (l.length : Int)) = false := decide_eq_false hlt2
        by_cases hjn : j < n
        · obtain ⟨r1, r2⟩ := HX.out.2 hjn
          have HR1 := Lib.hid r1
          have HR2 := Lib.hid r2
          have hjn1 : j + 1 ≤ n := hjn
          clear r1 r2
          go_wp2_with fail
          refine (HCX.out _).mono ?_
          rintro e wb ⟨rfl, hw⟩
          subst hw
          go_wp2_with fail
          refine CW.out.mono ?_
          rintro e w2 ⟨he, hs, hk2⟩
          rw [HR1.out] at he
          subst he
          rw [HR2.out] at hs
          have HI2 : Hid (FI W sb g cp n (j + 1) w2) := Lib.hid (HI.out.k2 hk2 ((wrS_len _ _ _ _).trans HL.out) hs)
          clear hs hk2 CW HX
          go_wp2_with fail
          go_roundw
          case rel => exact ⟨k + 1, j + 1, hk7, hjn1, by go_num, by go_num, HI2⟩
          case measure => simp [intOf]; omega
        · obtain rfl : j = n := by omega
          obtain ⟨r1, r2⟩ := HX.out.1 (Nat.le_refl _) (Nat.le_refl _)
          have HR1 := Lib.hid r1
          have HR2 := Lib.hid r2
          clear r1 r2
          go_wp2_with fail
          refine (HCX.out _).mono ?_
          rintro e wb ⟨rfl, hw⟩
          subst hw
          go_wp2_with fail
          refine CW.out.mono ?_
          rintro e w2 ⟨he, hs, hk2⟩
          rw [HR1.out] at he
          subst he
          rw [HR2.out] at hs
          have HS2 := Lib.hid hs
          have HB2 := Lib.hid (hk2.below HI.out.b HI.out.l.1 HI.out.l.2 HI.out.b.size)
          clear hs hk2 CW HX
          go_wp2_with fail
          refine (down_any w2 sb g cp _ _ HS2.out).mono ?_
          rintro e wd ⟨rfl, hw⟩
          subst hw
          go_wp2_with fail
          refine (writes_any w2 sb g cp _ _ HS2.out).mono ?_
          rintro e wd ⟨rfl, hw⟩
          subst hw
          go_wp2_with fail
          go_ret
          exact ⟨rfl, HB2.out⟩
    · have hk8 : ¬ (k : Int) < 70 := by omega
      have hj2 : (j : Int) ≤ (n : Int) := by omega
      have HB := Lib.hid HI.out.b
      go_wp2_with fail
      go_ret
      exact ⟨rfl, HB.out⟩

theorem own : ownKnob Try.prog.godebug = none := by kernel_rfl
set_option maxRecDepth 100000 in
theorem lifted (os : Os) (started : os.Started) (H : Type) (enc : TypeId × Value → H) :
    ReturnsInHanded {} Try.checked os 7 .any (Rows.storeFuseSpec.pre6 enc Try.prog Try.f7 Rows.storeFuseRow.domain false) (Rows.storeFuseSpec.post enc Try.prog Try.f7 false true false false) := by
  refine returnsInHanded_of_change_sized (C := Try.checked) own started (by kernel_rfl) Try.func7
    (ChangeSpec.witness6 (enc := enc) (C := Try.checked) false ⟨#[], #[.int .u8 0, .slice none 0 0], []⟩ 8 (by kernel_rfl) (by kernel_rfl) (by kernel_rfl) (by kernel_rfl)) ?_
  intro W base args ds gs before hval0 hW _ hsz0 _
  have hsz : (DataW.weightsEach Try.prog (Try.f7.params.toList ++ Rows.storeFuseSpec.plain.varTypes Try.prog) (ds ++ gs)).all (· ≤ reachBytes) = true := hsz0
  have hval : ∀ (j : Nat) t v, Try.f7.params[j]? = some t → args[j]? = some v → Value.okWide Try.prog W .any base t v := hval0
  have hW' := hW
  obtain ⟨p, q, hA0, hV, rfl, _, _⟩ := hW
  have hA : DataW.TrodAll enc Try.prog W 0 (fun _ => true) true Try.f7.params.toList args.toList ds p := hA0
  rw [Try.params7] at hA hval hsz
  obtain ⟨v0, vs0, d0, ds0, p0, q0, hargs, rfl, rfl, h0, r0⟩ := trodAll_cons hA
  obtain ⟨v1, vs1, d1, ds1, p1, q1, e1, rfl, rfl, h1, r1⟩ := trodAll_cons r0
  obtain ⟨rfl, rfl, rfl⟩ := trodAll_nil r1
  subst e1
  obtain rfl : args = #[v0, v1] := by cases args; simp_all
  obtain ⟨rfl, rfl⟩ := trodVars_none hV
  obtain ⟨b0, rfl⟩ := open_u8 (hval 0 _ v0 rfl rfl) h0
  have hw1 : Wt Try.prog 55 d1 := Wt.of hsz (j := 1) rfl rfl
  obtain ⟨A1, c1, l1, rfl, hr1, hl1⟩ := open_bos (hval 1 _ v1 rfl rfl) h1 hw1
  clear hA0 hval0 hsz0
  simp only [List.append_nil] at hW'
  have hlt0 := fun x hx => hW'.lt x hx
  refine (walk W b0 A1 c1 l1 hr1).mono fun e W' ⟨he2, hg⟩ => ?_
  subst he2
  have hargs := (trodAll_cons_mk (Below.trod progLaid (by kernel_rfl) (of_decide_eq_true (by kernel_rfl)) h0 hg (fun x hx => hlt0 x (List.mem_append_left _ hx))) (trodAll_cons_mk (Below.trod progLaid (by kernel_rfl) (of_decide_eq_true (by kernel_rfl)) h1 hg (fun x hx => hlt0 x (List.mem_append_right _ (hx)))) (trodAll_mk0 (enc := enc) (P := Try.prog) (w := W'))))
  simp only [List.append_nil] at hargs
  exact ⟨_, rfl, _, _, _, [], p0 ++ (p1), [], hW', trodAll_cons_mk (shut_bool Try.underlying4 _) trodAll_mk0, hargs, rfl, hg.frame _, fun h => by cases h⟩

theorem proved : Rows.StoreFuseSaid :=
  OpenClaim.holds_of_wide 7 Try.f7 rfl rfl rfl rfl rfl rfl rfl ⟨rfl, rfl, rfl, rfl, rfl⟩ rfl rfl rfl rfl rfl (by kernel_rfl) Try.func7 (by kernel_rfl)
    (of_decide_eq_true (by kernel_rfl)) (by unfold Func.isWrapper; first | (rw [if_pos (by decide +kernel)]; kernel_rfl) | (rw [if_neg (by decide +kernel)]; exact ⟨rfl, rfl⟩))
    (fun os started H enc _ => lifted os started H enc)
end Go.Proofs.Ytcipgjelbnmdiaa.SFuse
