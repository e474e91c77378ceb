/-
  A region that draws its order, in which one operation (the last store) may spoil what the others read: what they read stands as long as that one has not come up. A region that draws its order, in which what the others read stands behind each operation. Contracts of text's untold, kindWord, and of a statement's due, time, kind.
-/
import Derived.Test.YtigbceankmfaeaaGreatDoorTbab
import Derived.OrdersHeld
import Derived.Test.YtigbceankmfaeaaGreatDoorTbag
import Derived.Deep.DeepCutAuto
namespace Go.Proofs.YtigbceankmfaeaaGreatDoor.B
open Go
section
variable {P : Program} {ops : Array Oper} {Q : Exit → Act → World → Prop} {md : Region.Mode} {S : World → Prop} {z : Nat}
/-- Whatever order is picked, and behind each operation but number z the condition holds. -/
def wpAnyT (P : Program) (md : Region.Mode) (ops : Array Oper) (Q : Exit → Act → World → Prop) (S : World → Prop) (z : Nat) : Nat → Array Bool → Act → World → Prop
  | 0, listed, a, w => Region.ready md ops listed = [] ∧ Q .normal a w
  | fuel + 1, listed, a, w =>
    (Region.ready md ops listed = [] → Q .normal a w) ∧
    ∀ i ∈ Region.ready md ops listed, wpOp P ops Q i (fun a' w' => (i ≠ z → S w') ∧ wpAnyT P md ops Q S z fuel (listed.setIfInBounds i true) a' w') a w
theorem any_of_T : ∀ (fuel : Nat) (listed : Array Bool) (a : Act) (w : World), wpAnyT P md ops Q S z fuel listed a w → wpAny P md ops Q fuel listed a w
  | 0, _, _, _, h => h
  | fuel + 1, _, _, _, h => ⟨h.1, fun i hi => wpOp_mono (fun a' w' h' => any_of_T fuel _ a' w' h'.2) (h.2 i hi)⟩
/-- Number z waits for number i. -/
def waitsB (md : Region.Mode) (ops : Array Oper) (z i : Nat) : Bool := match ops[z]? with
  | some oz => oz.after.any fun e => Region.binds md e && e.on == i
  | none => false
theorem waits_of {z i : Nat} (h : waitsB md ops z i = true) : ∃ oz, ops[z]? = some oz ∧ ∃ e ∈ oz.after, Region.binds md e = true ∧ e.on = i := by
  unfold waitsB at h
  split at h
  · rename_i oz hz
    obtain ⟨e, he, hb⟩ := Array.any_eq_true'.1 h
    simp only [Bool.and_eq_true, beq_iff_eq] at hb
    exact ⟨oz, hz, e, he, hb.1, hb.2⟩
  · cases h
/-- Each waits for the next one. -/
def pathB (md : Region.Mode) (ops : Array Oper) : Nat → List Nat → Bool
  | _, [] => true
  | a, b :: r => waitsB md ops a b && pathB md ops b r
/-- What has come up has what it waited for. -/
def Shut (md : Region.Mode) (ops : Array Oper) (listed : Array Bool) : Prop := ∀ j oj, ops[j]? = some oj → listed.getD j false = true → ∀ e ∈ oj.after, Region.binds md e = true → listed.getD e.on false = true
def shutB (md : Region.Mode) (ops : Array Oper) (listed : Array Bool) : Bool := (List.range ops.size).all fun j => match ops[j]? with
  | some oj => !listed.getD j false || oj.after.all fun e => !Region.binds md e || listed.getD e.on false
  | none => true
theorem shut_of {listed : Array Bool} (h : shutB md ops listed = true) : Shut md ops listed := by
  intro j oj hj hl e he hb
  have hlt := (Array.getElem?_eq_some_iff.1 hj).1
  have h1 := List.all_eq_true.1 h j (List.mem_range.2 hlt)
  simp only [hj, hl, Bool.not_true, Bool.false_or] at h1
  have h2 := Array.all_eq_true'.1 h1 e he
  simpa [hb] using h2
theorem path_last {listed : Array Bool} (hs : Shut md ops listed) : ∀ (p : List Nat) (a : Nat), listed.getD a false = true → pathB md ops a p = true → ∀ i, (a :: p).getLast? = some i → listed.getD i false = true
  | [], a, ha, _, i, hi => by simp at hi; rw [← hi]; exact ha
  | b :: r, a, ha, hp, i, hi => by
    rw [pathB, Bool.and_eq_true] at hp
    obtain ⟨oa, hoa, e, he, hb, hon⟩ := waits_of hp.1
    have h1 := hs a oa hoa ha e he hb
    rw [hon] at h1
    exact path_last hs r b h1 hp.2 i (by simpa using hi)
theorem not_listed {listed : Array Bool} {i : Nat} (h : listed.getD i true = false) : listed.getD i false = false := by
  rcases Nat.lt_or_ge i listed.size with h' | h'
  · simp [h'] at h ⊢; exact h
  · simp [Array.getElem?_eq_none h'] at h
theorem Shut.set {listed : Array Bool} (hs : Shut md ops listed) {j : Nat} (hj : j ∈ Region.ready md ops listed) : Shut md ops (listed.setIfInBounds j true) := by
  obtain ⟨_, oj, hoj, hall⟩ := mem_ready.1 hj
  intro k ok hk hl e he hb
  by_cases hjk : j = k
  · subst hjk
    have : ok = oj := Option.some.inj (hk.symm.trans hoj)
    subst this
    exact getD_set_true (hall e he hb)
  · rw [getD_set_ne false hjk] at hl
    exact getD_set_true (hs k ok hk hl e he hb)
theorem anyT_first {i : Nat} {oi : Oper} {v : Value} {p : List Nat} {b : Nat} (hi : ops[i]? = some oi) (hsel : ∀ (j : Nat) (o : Oper) cs b, ops[j]? = some o → o.op ≠ .select cs b)
    (hQ : ∀ c a w, Q (.panic c) (a.put oi.dst v) w → Q (.panic c) a w) (hw : waitsB md ops z b = true) (hp : pathB md ops b p = true) (hl : (b :: p).getLast? = some i) :
    ∀ (fuel : Nat) (listed : Array Bool) (a : Act) (w : World), Shut md ops listed →
      (∀ j oj, ops[j]? = some oj → j ≠ i → listed.getD j true = false → (∀ e ∈ oj.after, Region.binds md e = true → e.on ≠ i) → oi.apart ops oj = true) →
      i ∈ Region.ready md ops listed → YieldsIf P ops S oi v a → S w →
      wpAnyT P md ops Q S z fuel (listed.setIfInBounds i true) (a.put oi.dst v) w → wpAnyT P md ops Q S z (fuel + 1) listed a w
  | fuel, listed, a, w, hsh, hfree, hr, hy, hS, H => by
    refine ⟨fun h => (by rw [h] at hr; cases hr), fun j hj => ?_⟩
    by_cases hji : j = i
    · subst hji; exact hy.wpOp hi hS ⟨fun _ => hS, H⟩
    have hun := (mem_ready.1 hr).1
    cases fuel with
    | zero =>
      have := ready_mono hj hji
      rw [H.1] at this
      cases this
    | succ fuel =>
      have h1 := H.2 j (ready_mono hj hji)
      obtain ⟨hjun, oj, hoj, hall⟩ := mem_ready.1 hj
      have hnot : ∀ e ∈ oj.after, Region.binds md e = true → e.on ≠ i := fun e he hb heq => by
        have h2 := hall e he hb
        rw [heq, not_listed hun] at h2
        cases h2
      have hjz : j ≠ z := by
        rintro rfl
        obtain ⟨oz, hoz, e, he, hb, hon⟩ := waits_of hw
        have : oz = oj := Option.some.inj (hoz.symm.trans hoj)
        subst this
        have h2 := hall e he hb
        rw [hon] at h2
        have h3 := path_last hsh p b h2 hp i hl
        rw [not_listed hun] at h3; cases h3
      have h2 := wpOp_putIf hoj (hfree j oj hoj hji hjun hnot) (fun cs b => hsel i oi cs b hi) (fun cs b => hsel j oj cs b hoj) hQ hy h1
      refine wpOp_mono (fun a' w' h3 => ⟨fun _ => h3.2.1 hjz, anyT_first hi hsel hQ hw hp hl fuel (listed.setIfInBounds j true) a' w' (hsh.set hj) (fun k ok hk hki hun' hno => ?_) (ready_mono hr (Ne.symm hji)) h3.1 (h3.2.1 hjz) ?_⟩) h2
      · refine hfree k ok hk hki ?_ hno
        by_cases hjk : j = k
        · subst hjk; exact hjun
        · rw [getD_set_ne true hjk] at hun'; exact hun'
      · rw [Array.setIfInBounds_comm _ _ hji]
        exact h3.2.2
/-- Number i may be taken first: z waits for it, over others (the way is told). -/
theorem anyT_take {i : Nat} (b : Nat) (p : List Nat) {oi : Oper} {v : Value} {fuel : Nat} {listed : Array Bool} {a : Act} {w : World} (hi : ops[i]? = some oi)
    (hs : Region.noSelect ops = true) (hf : Region.free md ops listed i = true) (hr : (Region.ready md ops listed).contains i = true)
    (hw : (shutB md ops listed && (waitsB md ops z b && (pathB md ops b p && decide ((b :: p).getLast? = some i)))) = true)
    (hQ : ∀ c a w, Q (.panic c) (a.put oi.dst v) w → Q (.panic c) a w) (hS : S w) (hwant : Region.wanted oi (yielded ops a.tmps) = true) (hy : ∀ w, S w → (execOp a.eval oi).run P w = .ok (.value v) w)
    (h : wpAnyT P md ops Q S z fuel (listed.setIfInBounds i true) (a.put oi.dst v) w) : wpAnyT P md ops Q S z (fuel + 1) listed a w := by
  simp only [Bool.and_eq_true, decide_eq_true_eq] at hw
  exact anyT_first hi (Region.noSelect_spec hs) hQ hw.2.1 hw.2.2.1 hw.2.2.2 fuel listed a w (shut_of hw.1) (Region.free_spec hi hf) (by simpa using hr) (.inl ⟨hwant, hy⟩) hS h
/-- One operation alone may come up. -/
theorem anyT_one {i : Nat} {oi : Oper} {fuel : Nat} {listed : Array Bool} {a : Act} {w : World} (hr : Region.ready md ops listed = [i]) (hi : ops[i]? = some oi) (hwant : Region.wanted oi (yielded ops a.tmps) = true)
    (h : oi.wp P a w (fun a' w' => (i ≠ z → S w') ∧ wpAnyT P md ops Q S z fuel (listed.setIfInBounds i true) a' w') Q) : wpAnyT P md ops Q S z (fuel + 1) listed a w := by
  refine ⟨fun h0 => (by rw [hr] at h0; cases h0), fun j hj => ?_⟩
  rw [hr] at hj
  obtain rfl : j = i := by simpa using hj
  unfold wpOp
  simp only [hi, hwant, if_true]
  exact .inl h
/-- The same, what follows behind a variable. -/
theorem anyT_one' {i : Nat} {oi : Oper} {fuel : Nat} {listed : Array Bool} {a : Act} {w : World} (hr : Region.ready md ops listed = [i]) (hi : ops[i]? = some oi) (hwant : Region.wanted oi (yielded ops a.tmps) = true)
    (h : ∀ K : Act → World → Prop, (∀ a' w', (i ≠ z → S w') → wpAnyT P md ops Q S z fuel (listed.setIfInBounds i true) a' w' → K a' w') → oi.wp P a w K Q) : wpAnyT P md ops Q S z (fuel + 1) listed a w :=
  anyT_one hr hi hwant (h _ fun _ _ h1 h2 => ⟨h1, h2⟩)
theorem anyT_done {listed : Array Bool} {a : Act} {w : World} (hr : Region.ready md ops listed = []) (h : Q .normal a w) (fuel : Nat) : wpAnyT P md ops Q S z fuel listed a w := by
  cases fuel with
  | zero => exact ⟨hr, h⟩
  | succ _ => exact ⟨fun _ => h, by rw [hr]; simp⟩
theorem wp_region_T {id : Nat} {a : Act} {w : World} {l : List Oper} (hm : P.follows .mixedOrders = true)
    (h : wpAnyT P .any l.toArray Q S z l.length (Array.replicate l.length false) a w.drew) : (Code.region id l.toArray true).wp P Q a w :=
  wp_region_any hm (any_of_T _ _ _ _ (by simpa using h))
end
end Go.Proofs.YtigbceankmfaeaaGreatDoor.B

namespace Go.Proofs.YtigbceankmfaeaaGreatDoor.B
open Go
section
variable {P : Program} {ops : Array Oper} {Q : Exit → Act → World → Prop} {md : Region.Mode} {S : World → Prop} {z : Nat}
theorem anyT_firstU {i : Nat} {oi : Oper} {v : Value} (hz : ops.size ≤ z) (hi : ops[i]? = some oi) (hsel : ∀ (j : Nat) (o : Oper) cs b, ops[j]? = some o → o.op ≠ .select cs b)
    (hQ : ∀ c a w, Q (.panic c) (a.put oi.dst v) w → Q (.panic c) a w) :
    ∀ (fuel : Nat) (listed : Array Bool) (a : Act) (w : World),
      (∀ j oj, ops[j]? = some oj → j ≠ i → listed.getD j true = false → (∀ e ∈ oj.after, Region.binds md e = true → e.on ≠ i) → oi.apart ops oj = true) →
      i ∈ Region.ready md ops listed → YieldsIf P ops S oi v a → S w →
      wpAnyT P md ops Q S z fuel (listed.setIfInBounds i true) (a.put oi.dst v) w → wpAnyT P md ops Q S z (fuel + 1) listed a w
  | fuel, listed, a, w, hfree, hr, hy, hS, H => by
    refine ⟨fun h => (by rw [h] at hr; cases hr), fun j hj => ?_⟩
    by_cases hji : j = i
    · subst hji; exact hy.wpOp hi hS ⟨fun _ => hS, H⟩
    have hun := (mem_ready.1 hr).1
    cases fuel with
    | zero =>
      have := ready_mono hj hji
      rw [H.1] at this
      cases this
    | succ fuel =>
      have h1 := H.2 j (ready_mono hj hji)
      obtain ⟨hjun, oj, hoj, hall⟩ := mem_ready.1 hj
      have hnot : ∀ e ∈ oj.after, Region.binds md e = true → e.on ≠ i := fun e he hb heq => by
        have h2 := hall e he hb
        rw [heq, not_listed hun] at h2
        cases h2
      have hjz : j ≠ z := by
        have := (Array.getElem?_eq_some_iff.1 hoj).1
        omega
      have h2 := wpOp_putIf hoj (hfree j oj hoj hji hjun hnot) (fun cs b => hsel i oi cs b hi) (fun cs b => hsel j oj cs b hoj) hQ hy h1
      refine wpOp_mono (fun a' w' h3 => ⟨fun _ => h3.2.1 hjz, anyT_firstU hz hi hsel hQ fuel (listed.setIfInBounds j true) a' w' (fun k ok hk hki hun' hno => ?_) (ready_mono hr (Ne.symm hji)) h3.1 (h3.2.1 hjz) ?_⟩) h2
      · refine hfree k ok hk hki ?_ hno
        by_cases hjk : j = k
        · subst hjk; exact hjun
        · rw [getD_set_ne true hjk] at hun'; exact hun'
      · rw [Array.setIfInBounds_comm _ _ hji]
        exact h3.2.2
/-- Number i may be taken first, where each operation leaves what is read as it was. -/
theorem anyT_takeU {i : Nat} {oi : Oper} {v : Value} {fuel : Nat} {listed : Array Bool} {a : Act} {w : World} (hz : ops.size ≤ z) (hi : ops[i]? = some oi)
    (hs : Region.noSelect ops = true) (hf : Region.free md ops listed i = true) (hr : (Region.ready md ops listed).contains i = true)
    (hQ : ∀ c a w, Q (.panic c) (a.put oi.dst v) w → Q (.panic c) a w) (hS : S w) (hwant : Region.wanted oi (yielded ops a.tmps) = true) (hy : ∀ w, S w → (execOp a.eval oi).run P w = .ok (.value v) w)
    (h : wpAnyT P md ops Q S z fuel (listed.setIfInBounds i true) (a.put oi.dst v) w) : wpAnyT P md ops Q S z (fuel + 1) listed a w :=
  anyT_firstU hz hi (Region.noSelect_spec hs) hQ fuel listed a w (Region.free_spec hi hf) (by simpa using hr) (.inl ⟨hwant, hy⟩) hS h
end
end Go.Proofs.YtigbceankmfaeaaGreatDoor.B

namespace Go.Proofs.YtigbceankmfaeaaGreatDoor.P3.C
open Go.RowKit Go.Shelf Go.Proofs.YtigbceankmfaeaaGreatDoor.B Go.Proofs.YtigbceankmfaeaaGreatDoor.Lx Go.Proofs.YtigbceankmfaeaaGreatDoor.P3
theorem ret_i64 {a b : Int} (h : a = b) : Ending.returned (.int .i64 a) = .returned (.int .i64 b) := by rw [h]
set_option maxHeartbeats 1000000 in
theorem untold_any (k : Int) (w : World) : Calls Tryz.prog 50 #[.int .i64 k] w fun e w' => e = .returned (.int .i64 (untB k)) ∧ w' = w := by
  by_cases h : k = 2
  · subst h
    go_enter Tryz.func50, Tryz.ntmps50
    go_wp2_with fail
    go_ret
    exact ⟨rfl, rfl⟩
  · have hq : (k == 2) = false := by rw [beq_eq_false_iff_ne]; exact h
    have HU : Hid (untB k = 0) := Lib.hid (by unfold untB; rw [if_neg h])
    clear h
    go_enter Tryz.func50, Tryz.ntmps50
    go_wp2_with fail
    go_ret
    exact ⟨ret_i64 HU.out.symm, rfl⟩
set_option maxHeartbeats 1000000 in
theorem kindWord_any (k : Int) (w : World) : Calls Tryz.prog 49 #[.int .i64 k] w fun e w' => e = .returned (.string ⟨(kwB k).toArray⟩) ∧ w' = w := by
  by_cases h1 : k = 1
  · subst h1
    go_enter Tryz.func49, Tryz.ntmps49
    go_wp2_with fail
    go_ret
    exact ⟨rfl, rfl⟩
  · by_cases h2 : k = 2
    · subst h2
      clear h1
      go_enter Tryz.func49, Tryz.ntmps49
      go_wp2_with fail
      go_ret
      exact ⟨rfl, rfl⟩
    · by_cases h3 : k = 3
      · subst h3
        clear h1 h2
        go_enter Tryz.func49, Tryz.ntmps49
        go_wp2_with fail
        go_ret
        exact ⟨rfl, rfl⟩
      · by_cases h4 : k = 4
        · subst h4
          clear h1 h2 h3
          go_enter Tryz.func49, Tryz.ntmps49
          go_wp2_with fail
          go_ret
          exact ⟨rfl, rfl⟩
        · have q1 : (k == 1) = false := by rw [beq_eq_false_iff_ne]; exact h1
          have q2 : (k == 2) = false := by rw [beq_eq_false_iff_ne]; exact h2
          have q3 : (k == 3) = false := by rw [beq_eq_false_iff_ne]; exact h3
          have q4 : (k == 4) = false := by rw [beq_eq_false_iff_ne]; exact h4
          have HU : Hid (kwB k = [109, 105, 108, 101, 115, 116, 111, 110, 101]) := Lib.hid (by unfold kwB; rw [if_neg h1, if_neg h2, if_neg h3, if_neg h4])
          clear h1 h2 h3 h4
          go_enter Tryz.func49, Tryz.ntmps49
          go_wp2_with fail
          go_ret
          exact ⟨by rw [HU.out]; rfl, rfl⟩
theorem kw_of (l : List UInt8) : (⟨l.toArray⟩ : ByteArray).toList = l := txt_list l
section
variable {W0 W : World} {b : Nat} {A : Option Addr} {c : Nat} {T : List Tok} {s : RS} {x0 x1 x2 x3 : Value}
set_option maxHeartbeats 2000000 in
theorem due_any (h : RD W0 b A c T s x0 x1 x2 x3 W) (hR : Row W0 A (rowC T)) (hT : T.length ≤ 1000000) :
    Calls Tryz.prog 112 #[.pointer (some ⟨b, 0, none⟩)] W (MP W0 b A c T (.int .i64 (dueV (T.map bare) s)) (dueS (T.map bare) s) x0 x1 x2 x3 W) := by
  have HM := Lib.hid (may_any h hR hT ⟨#[112, 101, 110, 100, 105, 110, 103]⟩ kPend (kw_of _) (by decide))
  have HD := Lib.hid (fun (W1 : World) (s1 : RS) (h1 : RD W0 b A c T s1 x0 x1 x2 x3 W1) => may_any h1 hR hT ⟨#[100, 117, 101]⟩ kDue (kw_of _) (by decide))
  have HN := Lib.hid (fun (W1 : World) (s1 : RS) (h1 : RD W0 b A c T s1 x0 x1 x2 x3 W1) => number_any h1 hR hT)
  clear h hR
  cases hp : seeB (T.map bare) kPend s with
  | true =>
    have HV : Hid (dueV (T.map bare) s = 1048576) := Lib.hid (by unfold dueV; rw [if_pos hp])
    have HS : Hid (mayS (T.map bare) kPend s = dueS (T.map bare) s) := Lib.hid (by unfold dueS; rw [if_pos hp])
    rw [hp, HS.out] at HM
    clear hp HD HN HS
    go_enter Tryz.func112, Tryz.ntmps112
    go_wp2_with fail
    refine HM.out.mono ?_
    rintro e w1 ⟨rfl, h1, g1⟩
    have H1 := Lib.hid h1
    have G1 := Lib.hid g1
    clear h1 g1 HM
    go_wp2_with fail
    go_ret
    exact ⟨ret_i64 HV.out.symm, H1.out, G1.out⟩
  | false =>
    rw [hp, may_no hp] at HM
    cases hd : seeB (T.map bare) kDue s with
    | true =>
      have HV : Hid (dueV (T.map bare) s = ((takN (T.map bare) [100] (mayS (T.map bare) kDue s) : Nat) : Int)) := Lib.hid (by unfold dueV; rw [hp, hd]; rfl)
      have HS : Hid (mustS (T.map bare) [100] (mayS (T.map bare) kDue s) = dueS (T.map bare) s) := Lib.hid (by unfold dueS; rw [hp, hd]; rfl)
      have HQ := Lib.hid hd
      clear hp hd
      go_enter Tryz.func112, Tryz.ntmps112
      go_wp2_with fail
      refine HM.out.mono ?_
      rintro e w1 ⟨rfl, h1, g1⟩
      have G1 := Lib.hid g1
      have HC := HD.out w1 s h1
      rw [HQ.out] at HC
      have HC2 := Lib.hid HC
      clear h1 g1 HM HD HC
      go_wp2_with fail
      refine HC2.out.mono ?_
      rintro e w2 ⟨rfl, h2, g2⟩
      have G2 := Lib.hid (G1.out.trans g2)
      have HC := HN.out w2 _ h2
      rw [HS.out, ← HV.out] at HC
      have HC3 := Lib.hid HC
      clear h2 g2 HC2 HN HC G1 HV
      go_wp2_with fail
      refine HC3.out.mono ?_
      rintro e w3 ⟨rfl, h3, g3⟩
      have H3 := Lib.hid h3
      have G3 := Lib.hid (G2.out.trans g3)
      clear h3 g3 HC3 G2
      go_wp2_with fail
      go_ret
      exact ⟨rfl, H3.out, G3.out⟩
    | false =>
      have HV : Hid (dueV (T.map bare) s = -1) := Lib.hid (by unfold dueV; rw [hp, hd]; rfl)
      have HS : Hid (dueS (T.map bare) s = s) := Lib.hid (by unfold dueS; rw [hp, hd]; rfl)
      have HQ := Lib.hid hd
      clear hp hd HN
      go_enter Tryz.func112, Tryz.ntmps112
      go_wp2_with fail
      refine HM.out.mono ?_
      rintro e w1 ⟨rfl, h1, g1⟩
      have G1 := Lib.hid g1
      have HC := HD.out w1 s h1
      rw [HQ.out, may_no HQ.out, ← HS.out] at HC
      have HC2 := Lib.hid HC
      clear h1 g1 HM HD HC
      go_wp2_with fail
      refine HC2.out.mono ?_
      rintro e w2 ⟨rfl, h2, g2⟩
      have H2 := Lib.hid h2
      have G2 := Lib.hid (G1.out.trans g2)
      clear h2 g2 HC2 G1
      go_wp2_with fail
      go_ret
      exact ⟨ret_i64 HV.out.symm, H2.out, G2.out⟩
set_option maxHeartbeats 2000000 in
theorem time_any (h : RD W0 b A c T s x0 x1 x2 x3 W) (hR : Row W0 A (rowC T)) (hT : T.length ≤ 1000000) (k : Int) :
    Calls Tryz.prog 115 #[.pointer (some ⟨b, 0, none⟩), .int .i64 k] W (MP W0 b A c T (.int .i64 (timeV (T.map bare) k s)) (timeS (T.map bare) k s) x0 x1 x2 x3 W) := by
  have HM := Lib.hid (mayNumber_any h hR hT)
  have H := Lib.hid h
  have HUT := Lib.hid (untold_any k)
  clear h hR
  by_cases hk : k = 1 ∨ k = 2
  · have hor : (k == 1) = true ∨ ((k == 1) = false ∧ (k == 2) = true) := by
      by_cases e : k = 1
      · exact .inl (beq_iff_eq.2 e)
      · exact .inr ⟨beq_eq_false_iff_ne.2 e, beq_iff_eq.2 (hk.resolve_left e)⟩
    have HS : Hid (mayS (T.map bare) [100] s = timeS (T.map bare) k s) := Lib.hid (by unfold timeS; rw [if_pos hk])
    rw [HS.out] at HM
    cases hq : seeB (T.map bare) [100] s with
    | true =>
      have HV : Hid (timeV (T.map bare) k s = ((takN (T.map bare) [100] s : Nat) : Int)) := Lib.hid (by unfold timeV; rw [if_pos ⟨hk, hq⟩])
      rw [hq, ← HV.out] at HM
      clear hq hk HS HUT HV
      rcases hor with h1 | ⟨h1, h2⟩
      all_goals
        go_enter Tryz.func115, Tryz.ntmps115
        go_wp2_with fail
        refine HM.out.mono ?_
        rintro e w1 ⟨rfl, h1, g1⟩
        have H1 := Lib.hid h1
        have G1 := Lib.hid g1
        clear h1 g1 HM
        go_wp2_with fail
        go_ret
        exact ⟨rfl, H1.out, G1.out⟩
    | false =>
      have HV : Hid (timeV (T.map bare) k s = untB k) := Lib.hid (by unfold timeV; rw [if_neg (fun h => by rw [hq] at h; cases h.2)])
      rw [hq] at HM
      clear hq hk HS
      generalize ((takN (T.map bare) [100] s : Nat) : Int) = tn at *
      rcases hor with h1 | ⟨h1, h2⟩
      all_goals
        go_enter Tryz.func115, Tryz.ntmps115
        go_wp2_with fail
        refine HM.out.mono ?_
        rintro e w1 ⟨rfl, h1, g1⟩
        have H1 := Lib.hid h1
        have G1 := Lib.hid g1
        clear h1 g1 HM
        go_wp2_with fail
        refine (HUT.out w1).mono ?_
        rintro e w2 ⟨rfl, hw⟩
        obtain rfl := hw
        clear HUT
        go_wp2_with fail
        go_ret
        exact ⟨ret_i64 HV.out.symm, H1.out, G1.out⟩
  · have q1 : (k == 1) = false := beq_eq_false_iff_ne.2 (fun e => hk (.inl e))
    have q2 : (k == 2) = false := beq_eq_false_iff_ne.2 (fun e => hk (.inr e))
    have HS : Hid (timeS (T.map bare) k s = s) := Lib.hid (by unfold timeS; rw [if_neg hk])
    have HV : Hid (timeV (T.map bare) k s = untB k) := Lib.hid (by unfold timeV; rw [if_neg (fun h => hk h.1)])
    rw [← HS.out] at H
    clear hk HM
    go_enter Tryz.func115, Tryz.ntmps115
    go_wp2_with fail
    refine (HUT.out W).mono ?_
    rintro e w2 ⟨rfl, hw⟩
    obtain rfl := hw
    clear HUT
    go_wp2_with fail
    go_ret
    exact ⟨ret_i64 HV.out.symm, H.out, World.grownBy.refl _ _⟩
end
end Go.Proofs.YtigbceankmfaeaaGreatDoor.P3.C
