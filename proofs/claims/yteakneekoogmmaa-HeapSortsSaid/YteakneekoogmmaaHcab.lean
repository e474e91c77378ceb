/-
  A region that draws its order, in which one operation (the last store) may spoil what the others read: what they read stands as long as that one has not come up. A region that draws its order, in which what the others read stands behind each operation. Contracts of package heap: weight, compare, ahead. Contracts of package heap: compare, ahead.
-/
import Derived.Test.YteakneekoogmmaaHcaa
import Derived.OrdersHeld
import Derived.StillTailTactics
namespace Go.Proofs.Yteakneekoogmmaa.B
open Go
section
variable {P : Program} {ops : Array Oper} {Q : Exit → Act → World → Prop} {md : Region.Mode} {S : World → Prop} {z : Nat}
/-- Whatever order is picked, and behind each operation but number z the condition holds. -/
def wpAnyT (P : Program) (md : Region.Mode) (ops : Array Oper) (Q : Exit → Act → World → Prop) (S : World → Prop) (z : Nat) : Nat → Array Bool → Act → World → Prop
  | 0, listed, a, w => Region.ready md ops listed = [] ∧ Q .normal a w
  | fuel + 1, listed, a, w =>
    (Region.ready md ops listed = [] → Q .normal a w) ∧
    ∀ i ∈ Region.ready md ops listed, wpOp P ops Q i (fun a' w' => (i ≠ z → S w') ∧ wpAnyT P md ops Q S z fuel (listed.setIfInBounds i true) a' w') a w
theorem any_of_T : ∀ (fuel : Nat) (listed : Array Bool) (a : Act) (w : World), wpAnyT P md ops Q S z fuel listed a w → wpAny P md ops Q fuel listed a w
  | 0, _, _, _, h => h
  | fuel + 1, _, _, _, h => ⟨h.1, fun i hi => wpOp_mono (fun a' w' h' => any_of_T fuel _ a' w' h'.2) (h.2 i hi)⟩
/-- Number z waits for number i. -/
def waitsB (md : Region.Mode) (ops : Array Oper) (z i : Nat) : Bool := match ops[z]? with
  | some oz => oz.after.any fun e => Region.binds md e && e.on == i
  | none => false
theorem waits_of {z i : Nat} (h : waitsB md ops z i = true) : ∃ oz, ops[z]? = some oz ∧ ∃ e ∈ oz.after, Region.binds md e = true ∧ e.on = i := by
  unfold waitsB at h
  split at h
  · rename_i oz hz
    obtain ⟨e, he, hb⟩ := Array.any_eq_true'.1 h
    simp only [Bool.and_eq_true, beq_iff_eq] at hb
    exact ⟨oz, hz, e, he, hb.1, hb.2⟩
  · cases h
/-- Each waits for the next one. -/
def pathB (md : Region.Mode) (ops : Array Oper) : Nat → List Nat → Bool
  | _, [] => true
  | a, b :: r => waitsB md ops a b && pathB md ops b r
/-- What has come up has what it waited for. -/
def Shut (md : Region.Mode) (ops : Array Oper) (listed : Array Bool) : Prop := ∀ j oj, ops[j]? = some oj → listed.getD j false = true → ∀ e ∈ oj.after, Region.binds md e = true → listed.getD e.on false = true
def shutB (md : Region.Mode) (ops : Array Oper) (listed : Array Bool) : Bool := (List.range ops.size).all fun j => match ops[j]? with
  | some oj => !listed.getD j false || oj.after.all fun e => !Region.binds md e || listed.getD e.on false
  | none => true
theorem shut_of {listed : Array Bool} (h : shutB md ops listed = true) : Shut md ops listed := by
  intro j oj hj hl e he hb
  have hlt := (Array.getElem?_eq_some_iff.1 hj).1
  have h1 := List.all_eq_true.1 h j (List.mem_range.2 hlt)
  simp only [hj, hl, Bool.not_true, Bool.false_or] at h1
  have h2 := Array.all_eq_true'.1 h1 e he
  simpa [hb] using h2
theorem path_last {listed : Array Bool} (hs : Shut md ops listed) : ∀ (p : List Nat) (a : Nat), listed.getD a false = true → pathB md ops a p = true → ∀ i, (a :: p).getLast? = some i → listed.getD i false = true
  | [], a, ha, _, i, hi => by simp at hi; rw [← hi]; exact ha
  | b :: r, a, ha, hp, i, hi => by
    rw [pathB, Bool.and_eq_true] at hp
    obtain ⟨oa, hoa, e, he, hb, hon⟩ := waits_of hp.1
    have h1 := hs a oa hoa ha e he hb
    rw [hon] at h1
    exact path_last hs r b h1 hp.2 i (by simpa using hi)
theorem not_listed {listed : Array Bool} {i : Nat} (h : listed.getD i true = false) : listed.getD i false = false := by
  rcases Nat.lt_or_ge i listed.size with h' | h'
  · simp [h'] at h ⊢; exact h
  · simp [Array.getElem?_eq_none h'] at h
theorem Shut.set {listed : Array Bool} (hs : Shut md ops listed) {j : Nat} (hj : j ∈ Region.ready md ops listed) : Shut md ops (listed.setIfInBounds j true) := by
  obtain ⟨_, oj, hoj, hall⟩ := mem_ready.1 hj
  intro k ok hk hl e he hb
  by_cases hjk : j = k
  · subst hjk
    have : ok = oj := Option.some.inj (hk.symm.trans hoj)
    subst this
    exact getD_set_true (hall e he hb)
  · rw [getD_set_ne false hjk] at hl
    exact getD_set_true (hs k ok hk hl e he hb)
theorem anyT_first {i : Nat} {oi : Oper} {v : Value} {p : List Nat} {b : Nat} (hi : ops[i]? = some oi) (hsel : ∀ (j : Nat) (o : Oper) cs b, ops[j]? = some o → o.op ≠ .select cs b)
    (hQ : ∀ c a w, Q (.panic c) (a.put oi.dst v) w → Q (.panic c) a w) (hw : waitsB md ops z b = true) (hp : pathB md ops b p = true) (hl : (b :: p).getLast? = some i) :
    ∀ (fuel : Nat) (listed : Array Bool) (a : Act) (w : World), Shut md ops listed →
      (∀ j oj, ops[j]? = some oj → j ≠ i → listed.getD j true = false → (∀ e ∈ oj.after, Region.binds md e = true → e.on ≠ i) → oi.apart ops oj = true) →
      i ∈ Region.ready md ops listed → YieldsIf P ops S oi v a → S w →
      wpAnyT P md ops Q S z fuel (listed.setIfInBounds i true) (a.put oi.dst v) w → wpAnyT P md ops Q S z (fuel + 1) listed a w
  | fuel, listed, a, w, hsh, hfree, hr, hy, hS, H => by
    refine ⟨fun h => (by rw [h] at hr; cases hr), fun j hj => ?_⟩
    by_cases hji : j = i
    · subst hji; exact hy.wpOp hi hS ⟨fun _ => hS, H⟩
    have hun := (mem_ready.1 hr).1
    cases fuel with
    | zero =>
      have := ready_mono hj hji
      rw [H.1] at this
      cases this
    | succ fuel =>
      have h1 := H.2 j (ready_mono hj hji)
      obtain ⟨hjun, oj, hoj, hall⟩ := mem_ready.1 hj
      have hnot : ∀ e ∈ oj.after, Region.binds md e = true → e.on ≠ i := fun e he hb heq => by
        have h2 := hall e he hb
        rw [heq, not_listed hun] at h2
        cases h2
      have hjz : j ≠ z := by
        rintro rfl
        obtain ⟨oz, hoz, e, he, hb, hon⟩ := waits_of hw
        have : oz = oj := Option.some.inj (hoz.symm.trans hoj)
        subst this
        have h2 := hall e he hb
        rw [hon] at h2
        have h3 := path_last hsh p b h2 hp i hl
        rw [not_listed hun] at h3; cases h3
      have h2 := wpOp_putIf hoj (hfree j oj hoj hji hjun hnot) (fun cs b => hsel i oi cs b hi) (fun cs b => hsel j oj cs b hoj) hQ hy h1
      refine wpOp_mono (fun a' w' h3 => ⟨fun _ => h3.2.1 hjz, anyT_first hi hsel hQ hw hp hl fuel (listed.setIfInBounds j true) a' w' (hsh.set hj) (fun k ok hk hki hun' hno => ?_) (ready_mono hr (Ne.symm hji)) h3.1 (h3.2.1 hjz) ?_⟩) h2
      · refine hfree k ok hk hki ?_ hno
        by_cases hjk : j = k
        · subst hjk; exact hjun
        · rw [getD_set_ne true hjk] at hun'; exact hun'
      · rw [Array.setIfInBounds_comm _ _ hji]
        exact h3.2.2
/-- Number i may be taken first: z waits for it, over others (the way is told). -/
theorem anyT_take {i : Nat} (b : Nat) (p : List Nat) {oi : Oper} {v : Value} {fuel : Nat} {listed : Array Bool} {a : Act} {w : World} (hi : ops[i]? = some oi)
    (hs : Region.noSelect ops = true) (hf : Region.free md ops listed i = true) (hr : (Region.ready md ops listed).contains i = true)
    (hw : (shutB md ops listed && (waitsB md ops z b && (pathB md ops b p && decide ((b :: p).getLast? = some i)))) = true)
    (hQ : ∀ c a w, Q (.panic c) (a.put oi.dst v) w → Q (.panic c) a w) (hS : S w) (hwant : Region.wanted oi (yielded ops a.tmps) = true) (hy : ∀ w, S w → (execOp a.eval oi).run P w = .ok (.value v) w)
    (h : wpAnyT P md ops Q S z fuel (listed.setIfInBounds i true) (a.put oi.dst v) w) : wpAnyT P md ops Q S z (fuel + 1) listed a w := by
  simp only [Bool.and_eq_true, decide_eq_true_eq] at hw
  exact anyT_first hi (Region.noSelect_spec hs) hQ hw.2.1 hw.2.2.1 hw.2.2.2 fuel listed a w (shut_of hw.1) (Region.free_spec hi hf) (by simpa using hr) (.inl ⟨hwant, hy⟩) hS h
/-- One operation alone may come up. -/
theorem anyT_one {i : Nat} {oi : Oper} {fuel : Nat} {listed : Array Bool} {a : Act} {w : World} (hr : Region.ready md ops listed = [i]) (hi : ops[i]? = some oi) (hwant : Region.wanted oi (yielded ops a.tmps) = true)
    (h : oi.wp P a w (fun a' w' => (i ≠ z → S w') ∧ wpAnyT P md ops Q S z fuel (listed.setIfInBounds i true) a' w') Q) : wpAnyT P md ops Q S z (fuel + 1) listed a w := by
  refine ⟨fun h0 => (by rw [hr] at h0; cases h0), fun j hj => ?_⟩
  rw [hr] at hj
  obtain rfl : j = i := by simpa using hj
  unfold wpOp
  simp only [hi, hwant, if_true]
  exact .inl h
/-- The same, what follows behind a variable. -/
theorem anyT_one' {i : Nat} {oi : Oper} {fuel : Nat} {listed : Array Bool} {a : Act} {w : World} (hr : Region.ready md ops listed = [i]) (hi : ops[i]? = some oi) (hwant : Region.wanted oi (yielded ops a.tmps) = true)
    (h : ∀ K : Act → World → Prop, (∀ a' w', (i ≠ z → S w') → wpAnyT P md ops Q S z fuel (listed.setIfInBounds i true) a' w' → K a' w') → oi.wp P a w K Q) : wpAnyT P md ops Q S z (fuel + 1) listed a w :=
  anyT_one hr hi hwant (h _ fun _ _ h1 h2 => ⟨h1, h2⟩)
theorem anyT_done {listed : Array Bool} {a : Act} {w : World} (hr : Region.ready md ops listed = []) (h : Q .normal a w) (fuel : Nat) : wpAnyT P md ops Q S z fuel listed a w := by
  cases fuel with
  | zero => exact ⟨hr, h⟩
  | succ _ => exact ⟨fun _ => h, by rw [hr]; simp⟩
theorem wp_region_T {id : Nat} {a : Act} {w : World} {l : List Oper} (hm : P.follows .mixedOrders = true)
    (h : wpAnyT P .any l.toArray Q S z l.length (Array.replicate l.length false) a w.drew) : (Code.region id l.toArray true).wp P Q a w :=
  wp_region_any hm (any_of_T _ _ _ _ (by simpa using h))
end
end Go.Proofs.Yteakneekoogmmaa.B

namespace Go.Proofs.Yteakneekoogmmaa.B
open Go
section
variable {P : Program} {ops : Array Oper} {Q : Exit → Act → World → Prop} {md : Region.Mode} {S : World → Prop} {z : Nat}
theorem anyT_firstU {i : Nat} {oi : Oper} {v : Value} (hz : ops.size ≤ z) (hi : ops[i]? = some oi) (hsel : ∀ (j : Nat) (o : Oper) cs b, ops[j]? = some o → o.op ≠ .select cs b)
    (hQ : ∀ c a w, Q (.panic c) (a.put oi.dst v) w → Q (.panic c) a w) :
    ∀ (fuel : Nat) (listed : Array Bool) (a : Act) (w : World),
      (∀ j oj, ops[j]? = some oj → j ≠ i → listed.getD j true = false → (∀ e ∈ oj.after, Region.binds md e = true → e.on ≠ i) → oi.apart ops oj = true) →
      i ∈ Region.ready md ops listed → YieldsIf P ops S oi v a → S w →
      wpAnyT P md ops Q S z fuel (listed.setIfInBounds i true) (a.put oi.dst v) w → wpAnyT P md ops Q S z (fuel + 1) listed a w
  | fuel, listed, a, w, hfree, hr, hy, hS, H => by
    refine ⟨fun h => (by rw [h] at hr; cases hr), fun j hj => ?_⟩
    by_cases hji : j = i
    · subst hji; exact hy.wpOp hi hS ⟨fun _ => hS, H⟩
    have hun := (mem_ready.1 hr).1
    cases fuel with
    | zero =>
      have := ready_mono hj hji
      rw [H.1] at this
      cases this
    | succ fuel =>
      have h1 := H.2 j (ready_mono hj hji)
      obtain ⟨hjun, oj, hoj, hall⟩ := mem_ready.1 hj
      have hnot : ∀ e ∈ oj.after, Region.binds md e = true → e.on ≠ i := fun e he hb heq => by
        have h2 := hall e he hb
        rw [heq, not_listed hun] at h2
        cases h2
      have hjz : j ≠ z := by
        have := (Array.getElem?_eq_some_iff.1 hoj).1
        omega
      have h2 := wpOp_putIf hoj (hfree j oj hoj hji hjun hnot) (fun cs b => hsel i oi cs b hi) (fun cs b => hsel j oj cs b hoj) hQ hy h1
      refine wpOp_mono (fun a' w' h3 => ⟨fun _ => h3.2.1 hjz, anyT_firstU hz hi hsel hQ fuel (listed.setIfInBounds j true) a' w' (fun k ok hk hki hun' hno => ?_) (ready_mono hr (Ne.symm hji)) h3.1 (h3.2.1 hjz) ?_⟩) h2
      · refine hfree k ok hk hki ?_ hno
        by_cases hjk : j = k
        · subst hjk; exact hjun
        · rw [getD_set_ne true hjk] at hun'; exact hun'
      · rw [Array.setIfInBounds_comm _ _ hji]
        exact h3.2.2
/-- Number i may be taken first, where each operation leaves what is read as it was. -/
theorem anyT_takeU {i : Nat} {oi : Oper} {v : Value} {fuel : Nat} {listed : Array Bool} {a : Act} {w : World} (hz : ops.size ≤ z) (hi : ops[i]? = some oi)
    (hs : Region.noSelect ops = true) (hf : Region.free md ops listed i = true) (hr : (Region.ready md ops listed).contains i = true)
    (hQ : ∀ c a w, Q (.panic c) (a.put oi.dst v) w → Q (.panic c) a w) (hS : S w) (hwant : Region.wanted oi (yielded ops a.tmps) = true) (hy : ∀ w, S w → (execOp a.eval oi).run P w = .ok (.value v) w)
    (h : wpAnyT P md ops Q S z fuel (listed.setIfInBounds i true) (a.put oi.dst v) w) : wpAnyT P md ops Q S z (fuel + 1) listed a w :=
  anyT_firstU hz hi (Region.noSelect_spec hs) hQ fuel listed a w (Region.free_spec hi hf) (by simpa using hr) (.inl ⟨hwant, hy⟩) hS h
end
end Go.Proofs.Yteakneekoogmmaa.B

namespace Go.Proofs.Yteakneekoogmmaa.HP
open Go.RowKit Go.Shelf Go.Proofs.Yteakneekoogmmaa.B
attribute [local go_sem] Oper.semAt_some
theorem mixed : Try.prog.follows .mixedOrders = true := by kernel_rfl
abbrev pt (k : Nat) : Value := .pointer (some ⟨k, 0, none⟩)
abbrev itV (x : It) : Value := .agg #[.int .i64 x.id, .int .i64 x.base, .int .i64 x.since]
def cmpI (a b : Int) : Int := if a < b then -1 else if b < a then 1 else 0
set_option maxHeartbeats 400000 in
theorem nan_any (w : World) (a : Int) : Calls Try.prog 41 #[.int .i64 a] w fun e w' => e = .returned (.bool false) ∧ w = w' := by
  go_enter Try.func41, Try.ntmps41
  go_wp2_with fail
  go_ret
  exact ⟨ret_bool (by simp), rfl⟩
set_option maxHeartbeats 400000 in
theorem cmp_any (w : World) (a b : Int) : Calls Try.prog 37 #[.int .i64 a, .int .i64 b] w fun e w' => e = .returned (.int .i64 (cmpI a b)) ∧ w = w' := by
  have C1 := Lib.hid (nan_any w a)
  have C2 := Lib.hid (nan_any w b)
  rcases Int.lt_trichotomy a b with h | h | h
  · have HE : Hid (cmpI a b = -1) := Lib.hid (by unfold cmpI; rw [if_pos h])
    rw [HE.out]
    go_enter Try.func37, Try.ntmps37
    go_wp2_with fail
    refine C1.out.mono ?_
    rintro e w' ⟨rfl, hw⟩
    subst hw
    go_wp2_with fail
    refine C2.out.mono ?_
    rintro e w' ⟨rfl, hw⟩
    subst hw
    go_wp2_with fail
    go_ret
    exact ⟨rfl, rfl⟩
  · subst h
    have HE : Hid (cmpI a a = 0) := Lib.hid (by unfold cmpI; rw [if_neg (by omega), if_neg (by omega)])
    rw [HE.out]
    go_enter Try.func37, Try.ntmps37
    go_wp2_with fail
    refine C1.out.mono ?_
    rintro e w' ⟨rfl, hw⟩
    subst hw
    go_wp2_with fail
    refine C2.out.mono ?_
    rintro e w' ⟨rfl, hw⟩
    subst hw
    go_wp2_with fail
    go_ret
    exact ⟨rfl, rfl⟩
  · have HE : Hid (cmpI a b = 1) := Lib.hid (by unfold cmpI; rw [if_neg (by omega), if_pos h])
    have h2 : ¬ a < b := by omega
    rw [HE.out]
    go_enter Try.func37, Try.ntmps37
    go_wp2_with fail
    refine C1.out.mono ?_
    rintro e w' ⟨rfl, hw⟩
    subst hw
    go_wp2_with fail
    refine C2.out.mono ?_
    rintro e w' ⟨rfl, hw⟩
    subst hw
    go_wp2_with fail
    go_ret
    exact ⟨rfl, rfl⟩
set_option maxHeartbeats 400000 in
theorem or_any (w : World) (b : Nat) (x y : Int) (h0 : w.cell? ⟨b, 0, none⟩ = some (.int .i64 x)) (h1 : w.cell? ⟨b, 1, none⟩ = some (.int .i64 y)) : Calls Try.prog 36 #[.slice (some ⟨b, 0, none⟩) 2 2] w fun e w' => e = .returned (.int .i64 (if x = 0 then y else x)) ∧ w = w' := by
  have hl := World.block_lt_of_cell? _ _ h0
  by_cases hx : x = 0
  · subst hx
    by_cases hy : y = 0
    · subst hy
      go_enter Try.func36, Try.ntmps36
      go_wp2_with fail
      go_loopw [8] (fun i wr => wr = w ∧ (i = .int .i64 0 ∨ i = .int .i64 1 ∨ i = .int .i64 2)) (fun i _ => 2 - (intOf i).toNat)
      case atStart => exact ⟨rfl, .inl rfl⟩
      case round =>
        obtain ⟨hwr, hi⟩ := hrel
        subst hwr
        rcases hi with rfl | rfl | rfl
        · go_wp2_with fail
          go_roundw
          case rel => exact ⟨trivial, .inr (.inl rfl)⟩
          case measure => simp [intOf]
        · go_wp2_with fail
          go_roundw
          case rel => exact ⟨trivial, .inr (.inr rfl)⟩
          case measure => simp [intOf]
        · go_wp2_with fail
          go_ret
          exact ⟨rfl, rfl⟩
    · have hyb : (y != 0) = true := by rw [bne_iff_ne]; exact hy
      go_enter Try.func36, Try.ntmps36
      go_wp2_with fail
      go_loopw [8] (fun i wr => wr = w ∧ (i = .int .i64 0 ∨ i = .int .i64 1)) (fun i _ => 2 - (intOf i).toNat)
      case atStart => exact ⟨rfl, .inl rfl⟩
      case round =>
        obtain ⟨hwr, hi⟩ := hrel
        subst hwr
        rcases hi with rfl | rfl
        · go_wp2_with fail
          go_roundw
          case rel => exact ⟨trivial, .inr rfl⟩
          case measure => simp [intOf]
        · go_wp2_with fail
          go_ret
          exact ⟨rfl, rfl⟩
  · have hxb : (x != 0) = true := by rw [bne_iff_ne]; exact hx
    rw [if_neg hx]
    go_enter Try.func36, Try.ntmps36
    go_wp2_with fail
    go_loopw [8] (fun i wr => wr = w ∧ i = .int .i64 0) (fun i _ => 2 - (intOf i).toNat)
    case atStart => exact ⟨rfl, rfl⟩
    case round =>
      obtain ⟨hwr, rfl⟩ := hrel
      subst hwr
      go_wp2_with fail
      go_ret
      exact ⟨rfl, rfl⟩
theorem mul_small {a s : Int} (h0 : 0 ≤ a) (h9 : a ≤ 9) (h1 : 1 ≤ s) (h2 : s ≤ 1048576) : 0 ≤ a * s ∧ a * s ≤ 9437184 := by
  have h3 : a * s ≤ 9 * s := Int.mul_le_mul_of_nonneg_right h9 (by omega)
  have h4 : 0 ≤ a * s := Int.mul_nonneg h0 (by omega)
  omega
set_option maxHeartbeats 1000000 in
theorem weight_any (w : World) (hb : Nat) (s : Int) (hc : w.cell? ⟨hb, 0, none⟩ = some (.int .i64 s)) (h1 : 1 ≤ s) (h2 : s ≤ 1048576) (x : It) (hx : OkI x) (now : Int) (n0 : 0 ≤ now) (n1 : now ≤ 1099511627776) :
    Calls Try.prog 27 #[pt hb, itV x, .int .i64 now] w fun e w' => e = .returned (.int .i64 (x.base * s + now - x.since)) ∧ Below w.heap.size w w' := by
  have hl := World.block_lt_of_cell? _ _ hc
  have hm := mul_small hx.base.1 hx.base.2 h1 h2
  have hs := hx.since
  clear hx
  obtain ⟨xi, xb, xs⟩ := x
  simp only at hm hs ⊢
  have HX := heap_new w (.cells #[.int .i64 xi, .int .i64 xb, .int .i64 xs] 32)
  have hB := Lib.hid ((Below.refl w.heap.size w).alloc (Nat.le_refl _) (.cells #[.int .i64 xi, .int .i64 xb, .int .i64 xs] 32))
  have k1 := cell_blk (i := 1) HX rfl
  have k2 := cell_blk (i := 2) HX rfl
  have hc' := (World.cell?_alloc_lt w (.cells #[.int .i64 xi, .int .i64 xb, .int .i64 xs] 32) ⟨hb, 0, none⟩ hl).trans hc
  clear HX
  have w1 : wrap64 (xb * s) = xb * s := by unfold wrap64; omega
  have w2 : wrap64 (xb * s + now) = xb * s + now := by unfold wrap64; omega
  have w3 : wrap64 (xb * s + now - xs) = xb * s + now - xs := by unfold wrap64; omega
  go_enter Try.func27, Try.ntmps27
  go_wp2_with fail
  go_quiet (fail)
  go_wp2_with fail
  go_ret
  exact ⟨rfl, below_draws hB.out _⟩
end Go.Proofs.Yteakneekoogmmaa.HP

namespace Go.Proofs.Yteakneekoogmmaa.HP
open Go.RowKit Go.Shelf Go.Proofs.Yteakneekoogmmaa.B
attribute [local go_sem] Oper.semAt_some
/-- Which of two comes first: below 0, the one. -/
def cmpL (s : Int) (x y : It) : Int := if cmpI (wt s y) (wt s x) = 0 then cmpI x.id y.id else cmpI (wt s y) (wt s x)
theorem cmpI_lt {a b : Int} : cmpI a b < 0 ↔ a < b := by
  unfold cmpI
  split
  · simp; omega
  · split <;> simp <;> omega
theorem cmpI_eq {a b : Int} : cmpI a b = 0 ↔ a = b := by
  unfold cmpI
  split
  · simp; omega
  · split <;> simp <;> omega
theorem cmpL_ah (s : Int) (x y : It) : decide (cmpL s x y < 0) = ahB s x y := by
  unfold cmpL
  rw [Bool.eq_iff_iff, decide_eq_true_eq, ah_iff]
  by_cases h : cmpI (wt s y) (wt s x) = 0
  · rw [if_pos h, cmpI_lt]
    rw [cmpI_eq] at h
    omega
  · rw [if_neg h, cmpI_lt]
    rw [cmpI_eq] at h
    omega
set_option maxRecDepth 100000 in
set_option maxHeartbeats 8000000 in
theorem compare_any (w : World) (hb : Nat) (s : Int) (hc : w.cell? ⟨hb, 0, none⟩ = some (.int .i64 s)) (h1 : 1 ≤ s) (h2 : s ≤ 1048576) (x y : It) (hx : OkI x) (hy : OkI y) :
    Calls Try.prog 30 #[pt hb, itV x, itV y] w fun e w' => e = .returned (.int .i64 (cmpL s x y)) ∧ Below w.heap.size w w' := by
  have hl := World.block_lt_of_cell? _ _ hc
  have HE : Hid (cmpL s x y = if cmpI (wt s y) (wt s x) = 0 then cmpI x.id y.id else cmpI (wt s y) (wt s x)) := Lib.hid rfl
  rw [HE.out]
  clear HE
  have CW := Lib.hid (fun (W : World) (z : It) (hz : OkI z) (hW : W.cell? ⟨hb, 0, none⟩ = some (.int .i64 s)) => (weight_any W hb s hW h1 h2 z hz 0 (by omega) (by omega)).mono (fun e w' h => show e = .returned (.int .i64 (wt s z)) ∧ Below W.heap.size W w' from ⟨h.1.trans (by unfold wt; rw [Int.add_zero]), h.2⟩))
  have CX := Lib.hid (fun W hW => CW.out W x hx hW)
  have CY := Lib.hid (fun W hW => CW.out W y hy hW)
  clear CW
  generalize wt s x = wx at *
  generalize wt s y = wy at *
  obtain ⟨xi, xb, xs⟩ := x
  obtain ⟨yi, yb, ys⟩ := y
  simp only
  generalize hrr : (if cmpI wy wx = 0 then cmpI xi yi else cmpI wy wx) = rr
  have HRR := Lib.hid hrr
  clear hrr
  obtain ⟨W0, hW0⟩ : ∃ W0, W0 = ((w.alloc (.cells #[.int .i64 xi, .int .i64 xb, .int .i64 xs] 32)).alloc (.cells #[.int .i64 yi, .int .i64 yb, .int .i64 ys] 32)) := ⟨_, rfl⟩
  have hB0 : Below w.heap.size w W0 := by rw [hW0]; exact ((Below.refl _ _).alloc (Nat.le_refl _) _).alloc (by rw [World.size_alloc]; omega) _
  have X : W0.heap[w.heap.size]? = some (.cells #[.int .i64 xi, .int .i64 xb, .int .i64 xs] 32 (0, 0)) := by rw [hW0]; exact (Below.heap_alloc _ _ _ (by rw [World.size_alloc]; omega)).trans (heap_new w _)
  have Y : W0.heap[w.heap.size + 1]? = some (.cells #[.int .i64 yi, .int .i64 yb, .int .i64 ys] 32 (0, 0)) := by rw [hW0, ← World.size_alloc w (.cells #[.int .i64 xi, .int .i64 xb, .int .i64 xs] 32)]; exact heap_new _ _
  have SC := Lib.hid (fun W (hW : Below W0.heap.size W0 W) => show W.cell? ⟨w.heap.size, 0, none⟩ = some (.int .i64 xi) ∧ W.cell? ⟨w.heap.size, 1, none⟩ = some (.int .i64 xb) ∧ W.cell? ⟨w.heap.size, 2, none⟩ = some (.int .i64 xs) ∧ W.cell? ⟨w.heap.size + 1, 0, none⟩ = some (.int .i64 yi) ∧ W.cell? ⟨w.heap.size + 1, 1, none⟩ = some (.int .i64 yb) ∧ W.cell? ⟨w.heap.size + 1, 2, none⟩ = some (.int .i64 ys) from by
    have X' := (hW.block _ (blk_lt X)).trans X
    have Y' := (hW.block _ (blk_lt Y)).trans Y
    exact ⟨cell_blk (i := 0) X' rfl, cell_blk (i := 1) X' rfl, cell_blk (i := 2) X' rfl, cell_blk (i := 0) Y' rfl, cell_blk (i := 1) Y' rfl, cell_blk (i := 2) Y' rfl⟩)
  have U : Hid (Below W0.heap.size W0 W0.drew) := Lib.hid (below_draws (Below.refl _ _) 1)
  have T : Hid (Below w.heap.size w W0.drew) := Lib.hid (below_draws hB0 1)
  have S := Lib.hid (SC.out _ U.out)
  clear X Y hB0
  go_enter Try.func30, Try.ntmps30
  go_wp2_with fail
  rw [← hW0]
  clear hW0
  refine wp_region_T (S := fun W => W.cell? ⟨w.heap.size, 0, none⟩ = some (.int .i64 xi) ∧ W.cell? ⟨w.heap.size, 1, none⟩ = some (.int .i64 xb) ∧ W.cell? ⟨w.heap.size, 2, none⟩ = some (.int .i64 xs) ∧ W.cell? ⟨w.heap.size + 1, 0, none⟩ = some (.int .i64 yi) ∧ W.cell? ⟨w.heap.size + 1, 1, none⟩ = some (.int .i64 yb) ∧ W.cell? ⟨w.heap.size + 1, 2, none⟩ = some (.int .i64 ys)) (z := 15) (by kernel_rfl) ?_
  generalize W0.drew = V0 at *
  refine anyT_takeU (i := 0) (v := ?_) (by decide) rfl (by kernel_rfl) (by kernel_rfl) (by kernel_rfl) (fun _ _ _ h => h) S.out (by rfl) ?_ ?_
  rotate_left
  · intro W9 hSw
    obtain ⟨q0, q1, q2, q3, q4, q5⟩ := hSw
    go_simp
    try with_reducible rfl
  simp only [Act.put, List.setIfInBounds_toArray]
  try simp only [List.set_cons_zero, List.set_cons_succ]
  try simp only [List.getElem_toArray]
  repeat (first | simp only [List.getElem_cons_zero] | simp only [List.getElem_cons_succ])
  refine anyT_takeU (i := 1) (v := ?_) (by decide) rfl (by kernel_rfl) (by kernel_rfl) (by kernel_rfl) (fun _ _ _ h => h) S.out (by rfl) ?_ ?_
  rotate_left
  · intro W9 hSw
    obtain ⟨q0, q1, q2, q3, q4, q5⟩ := hSw
    go_simp
    try with_reducible rfl
  simp only [Act.put, List.setIfInBounds_toArray]
  try simp only [List.set_cons_zero, List.set_cons_succ]
  try simp only [List.getElem_toArray]
  repeat (first | simp only [List.getElem_cons_zero] | simp only [List.getElem_cons_succ])
  refine anyT_takeU (i := 3) (v := ?_) (by decide) rfl (by kernel_rfl) (by kernel_rfl) (by kernel_rfl) (fun _ _ _ h => h) S.out (by rfl) ?_ ?_
  rotate_left
  · intro W9 hSw
    obtain ⟨q0, q1, q2, q3, q4, q5⟩ := hSw
    go_simp
    try with_reducible rfl
  simp only [Act.put, List.setIfInBounds_toArray]
  try simp only [List.set_cons_zero, List.set_cons_succ]
  try simp only [List.getElem_toArray]
  repeat (first | simp only [List.getElem_cons_zero] | simp only [List.getElem_cons_succ])
  refine anyT_takeU (i := 4) (v := ?_) (by decide) rfl (by kernel_rfl) (by kernel_rfl) (by kernel_rfl) (fun _ _ _ h => h) S.out (by rfl) ?_ ?_
  rotate_left
  · intro W9 hSw
    obtain ⟨q0, q1, q2, q3, q4, q5⟩ := hSw
    go_simp
    try with_reducible rfl
  simp only [Act.put, List.setIfInBounds_toArray]
  try simp only [List.set_cons_zero, List.set_cons_succ]
  try simp only [List.getElem_toArray]
  repeat (first | simp only [List.getElem_cons_zero] | simp only [List.getElem_cons_succ])
  refine anyT_takeU (i := 7) (v := ?_) (by decide) rfl (by kernel_rfl) (by kernel_rfl) (by kernel_rfl) (fun _ _ _ h => h) S.out (by rfl) ?_ ?_
  rotate_left
  · intro W9 hSw
    obtain ⟨q0, q1, q2, q3, q4, q5⟩ := hSw
    go_simp
    try with_reducible rfl
  simp only [Act.put, List.setIfInBounds_toArray]
  try simp only [List.set_cons_zero, List.set_cons_succ]
  try simp only [List.getElem_toArray]
  repeat (first | simp only [List.getElem_cons_zero] | simp only [List.getElem_cons_succ])
  refine anyT_takeU (i := 8) (v := ?_) (by decide) rfl (by kernel_rfl) (by kernel_rfl) (by kernel_rfl) (fun _ _ _ h => h) S.out (by rfl) ?_ ?_
  rotate_left
  · intro W9 hSw
    obtain ⟨q0, q1, q2, q3, q4, q5⟩ := hSw
    go_simp
    try with_reducible rfl
  simp only [Act.put, List.setIfInBounds_toArray]
  try simp only [List.set_cons_zero, List.set_cons_succ]
  try simp only [List.getElem_toArray]
  repeat (first | simp only [List.getElem_cons_zero] | simp only [List.getElem_cons_succ])
  refine anyT_takeU (i := 9) (v := ?_) (by decide) rfl (by kernel_rfl) (by kernel_rfl) (by kernel_rfl) (fun _ _ _ h => h) S.out (by rfl) ?_ ?_
  rotate_left
  · intro W9 hSw
    obtain ⟨q0, q1, q2, q3, q4, q5⟩ := hSw
    go_simp
    try with_reducible rfl
  simp only [Act.put, List.setIfInBounds_toArray]
  try simp only [List.set_cons_zero, List.set_cons_succ]
  try simp only [List.getElem_toArray]
  repeat (first | simp only [List.getElem_cons_zero] | simp only [List.getElem_cons_succ])
  refine anyT_takeU (i := 10) (v := ?_) (by decide) rfl (by kernel_rfl) (by kernel_rfl) (by kernel_rfl) (fun _ _ _ h => h) S.out (by rfl) ?_ ?_
  rotate_left
  · intro W9 hSw
    obtain ⟨q0, q1, q2, q3, q4, q5⟩ := hSw
    go_simp
    try with_reducible rfl
  simp only [Act.put, List.setIfInBounds_toArray]
  try simp only [List.set_cons_zero, List.set_cons_succ]
  try simp only [List.getElem_toArray]
  repeat (first | simp only [List.getElem_cons_zero] | simp only [List.getElem_cons_succ])
  refine anyT_one' (i := 2) (by kernel_rfl) rfl (by rfl) (fun K hK => ?_)
  have HK := Lib.hid hK
  clear hK
  unfold Oper.wp
  go_simp
  refine (CY.out _ ((T.out.cell (p := ⟨hb, 0, none⟩) hl).trans hc)).mono ?_
  rintro e w9 ⟨rfl, hb9⟩
  replace U := Lib.hid (U.out.trans (hb9.mono U.out.size))
  replace T := Lib.hid (T.out.trans (hb9.mono T.out.size))
  replace S := Lib.hid (SC.out _ U.out)
  clear hb9
  dsimp only
  refine HK.out _ _ (fun _ => S.out) ?_
  clear HK K
  refine anyT_one' (i := 5) (by kernel_rfl) rfl (by rfl) (fun K hK => ?_)
  have HK := Lib.hid hK
  clear hK
  unfold Oper.wp
  go_simp
  refine (CX.out _ ((T.out.cell (p := ⟨hb, 0, none⟩) hl).trans hc)).mono ?_
  rintro e w9 ⟨rfl, hb9⟩
  replace U := Lib.hid (U.out.trans (hb9.mono U.out.size))
  replace T := Lib.hid (T.out.trans (hb9.mono T.out.size))
  replace S := Lib.hid (SC.out _ U.out)
  clear hb9
  dsimp only
  refine HK.out _ _ (fun _ => S.out) ?_
  clear HK K
  refine anyT_one' (i := 6) (by kernel_rfl) rfl (by rfl) (fun K hK => ?_)
  have HK := Lib.hid hK
  clear hK
  unfold Oper.wp
  go_simp
  refine (cmp_any _ wy wx).mono ?_
  rintro e w9 ⟨rfl, hww⟩
  subst hww
  dsimp only
  refine HK.out _ _ (fun _ => S.out) ?_
  clear HK K
  refine anyT_one' (i := 11) (by kernel_rfl) rfl (by rfl) (fun K hK => ?_)
  have HK := Lib.hid hK
  clear hK
  unfold Oper.wp
  go_simp
  refine (cmp_any _ xi yi).mono ?_
  rintro e w9 ⟨rfl, hww⟩
  subst hww
  generalize hc1 : cmpI wy wx = c1 at *
  generalize hc2 : cmpI xi yi = c2 at *
  dsimp only
  refine HK.out _ _ (fun _ => S.out) ?_
  clear HK K
  refine anyT_one' (i := 12) (by kernel_rfl) rfl (by rfl) (fun K hK => ?_)
  have HK := Lib.hid hK
  clear hK
  unfold Oper.wp
  go_simp
  replace U := Lib.hid (U.out.alloc U.out.size (.cells #[.int .i64 c1, .int .i64 c2] 3))
  replace T := Lib.hid (T.out.alloc T.out.size (.cells #[.int .i64 c1, .int .i64 c2] 3))
  replace S := Lib.hid (SC.out _ U.out)
  refine HK.out _ _ (fun _ => S.out) ?_
  clear HK K
  refine anyT_one' (i := 13) (by kernel_rfl) rfl (by rfl) (fun K hK => ?_)
  have HK := Lib.hid hK
  clear hK
  unfold Oper.wp
  go_simp
  refine (or_any _ _ c1 c2 (cell_blk (i := 0) (heap_new _ _) rfl) (cell_blk (i := 1) (heap_new _ _) rfl)).mono ?_
  rintro e w9 ⟨rfl, hww⟩
  subst hww
  rw [show (if c1 = 0 then c2 else c1) = rr from HRR.out]
  dsimp only
  refine HK.out _ _ (fun _ => S.out) ?_
  clear HK K
  refine anyT_one' (i := 14) (by kernel_rfl) rfl (by rfl) (fun K hK => ?_)
  have HK := Lib.hid hK
  clear hK
  unfold Oper.wp
  go_simp
  refine HK.out _ _ (fun _ => S.out) ?_
  clear HK K
  refine anyT_done (by kernel_rfl) ?_ _
  go_wp2_with fail
  go_ret
  exact ⟨rfl, T.out⟩
set_option maxRecDepth 100000 in
set_option maxHeartbeats 4000000 in
theorem ahead_any (w : World) (hb : Nat) (A : HA) (s : Int) (L : List It) (h : HpI w hb A s L) (i j : Nat) (hi : i < L.length) (hj : j < L.length) :
    Calls Try.prog 31 #[pt hb, .int .i64 (i : Int), .int .i64 (j : Int)] w fun e w' => e = .returned (.bool (ahB s L[i]! L[j]!)) ∧ Below w.heap.size w w' := by
  obtain ⟨ia, ic, pb⟩ := A
  have hc0 := cell_blk (i := 0) h.box rfl
  have c1 : w.drew.cell? ⟨hb, 1, none⟩ = some (.slice ia L.length ic) := cell_blk (i := 1) h.box rfl
  have CC := Lib.hid (compare_any w.drew hb s hc0 h.step.1 h.step.2 L[i]! L[j]! (h.ok _ (mem_at hi)) (h.ok _ (mem_at hj)))
  have hl : hb < w.drew.heap.size := h.lt
  obtain ⟨B, hr⟩ := h.row
  obtain ⟨b, off, hA, hbl, k0⟩ := (Row.of_own hr).at_ (k := 3) (fun _ => rfl) (by omega) hi
  obtain ⟨b', off', hA', _, m0⟩ := (Row.of_own hr).at_ (k := 3) (fun _ => rfl) (by omega) hj
  obtain rfl : ia = some ⟨b, off, none⟩ := hA
  obtain ⟨rfl, rfl⟩ : b = b' ∧ off = off' := by injection hA' with e; injection e with e1 e2 _; exact ⟨e1, e2⟩
  have x0 : w.drew.cell? ⟨b, off + i * 3, none⟩ = some (.int .i64 L[i]!.id) := by have := k0 0 _ rfl; rw [Nat.add_zero] at this; exact this
  have x1 : w.drew.cell? ⟨b, off + i * 3 + 1, none⟩ = some (.int .i64 L[i]!.base) := k0 1 _ rfl
  have x2 : w.drew.cell? ⟨b, off + i * 3 + 2, none⟩ = some (.int .i64 L[i]!.since) := k0 2 _ rfl
  have y0 : w.drew.cell? ⟨b, off + j * 3, none⟩ = some (.int .i64 L[j]!.id) := by have := m0 0 _ rfl; rw [Nat.add_zero] at this; exact this
  have y1 : w.drew.cell? ⟨b, off + j * 3 + 1, none⟩ = some (.int .i64 L[j]!.base) := m0 1 _ rfl
  have y2 : w.drew.cell? ⟨b, off + j * 3 + 2, none⟩ = some (.int .i64 L[j]!.since) := m0 2 _ rfl
  have i0 : (0 : Int) ≤ (i : Int) := Int.natCast_nonneg _
  have i1 : (i : Int) < (L.length : Int) := by omega
  have j0 : (0 : Int) ≤ (j : Int) := Int.natCast_nonneg _
  have j1 : (j : Int) < (L.length : Int) := by omega
  have hbl' : b < w.drew.heap.size := hbl
  have HD := Lib.hid (cmpL_ah s L[i]! L[j]!)
  have hB := Lib.hid (below_draws (Below.refl w.heap.size w) 1)
  clear h hr k0 m0 hA' hc0
  generalize cmpL s L[i]! L[j]! = cc at *
  generalize ahB s L[i]! L[j]! = bb at *
  generalize L[i]! = x at *
  generalize L[j]! = y at *
  go_enter Try.func31, Try.ntmps31
  go_wp2_with fail
  refine wp_region_still_tail 15 mixed (by kernel_rfl) ?_
  simp only [List.take_succ_cons, List.take_zero, List.drop_succ_cons, List.drop_zero]
  iterate 15 still_step
  refine wpStill_nil ?_
  go_wp2_with (go_at_call 30; refine CC.out.mono ?_; rintro e w9 ⟨rfl, hb9⟩)
  go_ret
  exact ⟨ret_bool HD.out, hB.out.trans (hb9.mono (Nat.le_refl _))⟩
end Go.Proofs.Yteakneekoogmmaa.HP
