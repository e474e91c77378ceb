/-
  Contracts of maps.Copy at sets of ints, and of needs.joined at them.
-/
import Derived.Test.YtaagpnepkjkfoaaNdK
namespace Go.Proofs.Ytaagpnepkjkfoaa.N7
open Go.RowKit Go.Shelf Go.Proofs.Ytaagpnepkjkfoaa.B Go.Proofs.Ytaagpnepkjkfoaa.R6

/-- What stands while a set is copied into another one. -/
structure CI (T : TypeId) (w : World) (bd bs r nd ns : Nat) (Sd Ss : Lit → Prop) (D : DataW Unit) (left : Lit → Bool) (cnt : Nat) (W : World) : Prop where
  rg : W.ranges Try.prog T Ru bs r ns D left cnt
  m : ∃ k, k + cnt ≤ ns ∧ MS T W bd (nd + k) (fun l => Sd l ∨ (Ss l ∧ left l = false))
  g : w.grownBy W (some bd)
  ss : ∀ l, Maps.has D l = true ↔ Ss l
theorem CI.alloc {T : TypeId} {w W : World} {bd bs r nd ns cnt : Nat} {Sd Ss : Lit → Prop} {D : DataW Unit} {left : Lit → Bool} (h : CI T w bd bs r nd ns Sd Ss D left cnt W) (o : Obj) : CI T w bd bs r nd ns Sd Ss D left cnt (W.alloc o) := by
  obtain ⟨h1, ⟨k, h2, h3⟩, h4, h5⟩ := h
  have hg := World.grownBy_alloc W o none
  exact ⟨h1.kept hg (by simp) (by simp), ⟨k, h2, h3.kept hg (by simp)⟩, h4.andThen hg (fun j hj => by cases hj), h5⟩
theorem CI.start {T : TypeId} {w w0 : World} {bd bs nd ns : Nat} {Sd Ss : Lit → Prop} {D : DataW Unit} (hd : MS T w bd nd Sd) (hs : w.ownsMap Try.prog T Ru bs ns D) (hS : ∀ l, Maps.has D l = true ↔ Ss l)
    (hrg : w0.ranges Try.prog T Ru bs w.heap.size ns D (Maps.has D) (Maps.size D)) (hg : w.grownBy w0 none) : CI T w bd bs w.heap.size nd ns Sd Ss D (Maps.has D) (Maps.size D) w0 := by
  have hz := hs.size_le
  refine ⟨hrg, ⟨0, by omega, (hd.kept hg (by simp)).congr (fun l => ?_)⟩, hg.but _, hS⟩
  constructor
  · exact .inl
  · rintro (h | ⟨h1, h2⟩)
    · exact h
    · rw [(hS l).2 h1] at h2; cases h2
/-- An entry has come. -/
theorem CI.come {T : TypeId} {w W W1 : World} {bd bs r nd ns cnt : Nat} {Sd Ss : Lit → Prop} {D : DataW Unit} {left : Lit → Bool} (h : CI T w bd bs r nd ns Sd Ss D left cnt W) (hg : W.grownBy W1 (some r)) (hw : w.heap.size ≤ r) (hbd : bd < w.heap.size) : w.grownBy W1 (some bd) ∧ ∃ k, k + cnt ≤ ns ∧ MS T W1 bd (nd + k) (fun l => Sd l ∨ (Ss l ∧ left l = false)) := by
  obtain ⟨h1, ⟨k, h2, h3⟩, h4, h5⟩ := h
  exact ⟨h4.andThen hg (fun j hj => .inl (by cases hj; exact hw)), k, h2, h3.kept hg (fun e => by have := Option.some.inj e; omega)⟩
/-- It has been put. -/
theorem CI.next {T t e : TypeId} (K : Maps.Keyed Try.prog T) (ht : Try.prog.underlying t = some (.map T e)) {w W : World} {bd bs r nd ns cnt cnt1 : Nat} {Sd Ss : Lit → Prop} {D : DataW Unit} {left : Lit → Bool} {kl : Lit} {key : Value}
    (hrg : W.ranges Try.prog T Ru bs r ns D (fun z => left z && !z.sameKey kl) cnt1) (hm : ∃ k, k + cnt ≤ ns ∧ MS T W bd (nd + k) (fun l => Sd l ∨ (Ss l ∧ left l = false))) (hg : w.grownBy W (some bd)) (hS : ∀ l, Maps.has D l = true ↔ Ss l)
    (hk : keyOf Try.prog T key = some kl) (hat : Maps.has D kl = true) (hc : cnt1 < cnt) (hroom : nd + ns < maxLen) (hne : bd ≠ bs) (hr : w.heap.size ≤ r) (hbd : bd < w.heap.size) :
    ∃ w1, (Instr.mapUpdate t (.map (some bd)) key (.agg #[])).run Try.prog W = .ok () w1 ∧ CI T w bd bs r nd ns Sd Ss D (fun z => left z && !z.sameKey kl) cnt1 w1 := by
  obtain ⟨k, h1, h2⟩ := hm
  obtain ⟨w1, g1, g2, g3⟩ := h2.put K ht (by omega) hk
  refine ⟨w1, g1, hrg.kept g3 (fun e => hne (Option.some.inj e).symm) (fun e => by have := Option.some.inj e; omega), ⟨k + 1, by omega, g2.congr (fun l => ?_)⟩, hg.andThen g3 (fun j hj => .inr hj), hS⟩
  constructor
  · rintro ((h | ⟨a, b⟩) | rfl)
    · exact .inl h
    · exact .inr ⟨a, by rw [b]; rfl⟩
    · exact .inr ⟨(hS _).1 hat, by rw [WideAt.sameKey_self (K.key hk)]; simp⟩
  · rintro (h | ⟨a, b⟩)
    · exact .inl (.inl h)
    · cases e : left l with
      | false => exact .inl (.inr ⟨a, rfl⟩)
      | true =>
        rw [e, Bool.true_and, Bool.not_eq_false'] at b
        exact .inr (WideAt.sameKey_eq b)
theorem CI.done {T : TypeId} {w W : World} {bd bs r nd ns cnt : Nat} {Sd Ss : Lit → Prop} {D : DataW Unit} {left : Lit → Bool} (h : CI T w bd bs r nd ns Sd Ss D left cnt W) (hl : ∀ l, left l = false) : MS T W bd (nd + ns) (fun l => Sd l ∨ Ss l) ∧ w.grownBy W (some bd) := by
  obtain ⟨h1, ⟨k, h2, h3⟩, h4, h5⟩ := h
  exact ⟨(h3.mono (by omega)).congr (fun l => by rw [hl l]; simp), h4⟩

set_option maxRecDepth 100000 in
set_option maxHeartbeats 4000000 in
theorem copy_int (w : World) (bd bs nd ns : Nat) (Sd Ss : Lit → Prop) (hd : MS 3 w bd nd Sd) (hs : MS 3 w bs ns Ss) (hne : bd ≠ bs) (hroom : nd + ns < maxLen) :
    Calls Try.prog 91 #[.map (some bd), .map (some bs)] w fun e w' => e = .returned (.tuple #[]) ∧ MS 3 w' bd (nd + ns) (fun l => Sd l ∨ Ss l) ∧ w.grownBy w' (some bd) := by
  obtain ⟨D, hown, hS⟩ := hs
  have hbd := hd.lt
  have HD := Lib.hid hd
  have HS := Lib.hid hS
  have HO := Lib.hid hown
  clear hd hS hown
  go_enter Try.func91, Try.ntmps91
  go_wp2_with (at_range; refine wpList_range_own _ rfl _ 84 rfl 3 104 lawI Try.underlying84 Ru bs ns D rfl HO.out ?_; intro w0 hrg0 hg0 hs0)
  go_frame
  have C0 := Lib.hid (CI.start HD.out HO.out HS.out hrg0 hg0)
  clear hrg0 hg0 hs0
  go_loopw [] (fun wr => ∃ left cnt, Hid (CI 3 w bd bs w.heap.size nd ns Sd Ss D left cnt wr)) (fun wr => wr.rangeLeft bs w.heap.size)
  case atStart => exact ⟨_, _, C0⟩
  case round =>
    clear C0
    obtain ⟨left, cnt, CC⟩ := hrel
    go_wp2_with (at_next; refine wpList_next_ranges _ rfl _ rfl 3 lawI Ru (Value.int .i64) (fun _ : Unit => Value.agg #[]) (fun key kl hk => by obtain ⟨x, hx, _⟩ := Maps.keyOf_i64 Try.underlying3 hk; exact ⟨x, hx⟩) (fun v y hy => ⟨(), Ru_inv hy⟩) bs w.heap.size ns _ _ _ rfl CC.out.rg ?_ ?_)
    · intro hc0 hl0
      have hfin := Lib.hid (CC.out.done hl0)
      clear hl0 CC
      subst hc0
      go_wp2_with fail
      go_end0
      exact ⟨rfl, hfin.out.1, hfin.out.2⟩
    · intro x c kl y w1 cnt1 hkey hlx hRv hat hrg1 hlt1 hg1 hs1 hen
      obtain ⟨hgw, hmw⟩ := CC.out.come hg1 (Nat.le_refl _) hbd
      have hhas := Maps.has_true_of_atKey hat
      have hal := World.grownBy_alloc w1 (.cells #[] 104) none
      have hl := hrg1.lt
      obtain ⟨k, hk1, hk2⟩ := hmw
      obtain ⟨w2, hput, hC2⟩ := CI.next (e := 104) lawI Try.underlying84 (hrg1.kept hal (by simp) (by simp)) ⟨k, hk1, hk2.kept hal (by simp)⟩ (hgw.andThen hal (fun j hj => by cases hj)) HS.out hkey hhas hlt1 hroom hne (Nat.le_refl _) hbd
      have C2 := Lib.hid hC2
      have HL := Lib.hid CC.out.rg.left_eq
      have HC := Lib.hid hlt1
      clear hal hk1 hk2 hgw hhas hrg1 hg1 hs1 hkey hlx hRv hat hC2 CC hlt1
      go_wp2_with fail
      go_roundw
      case rel => exact ⟨_, _, C2⟩
      case measure => rw [C2.out.rg.left_eq, HL.out]; exact HC.out
end Go.Proofs.Ytaagpnepkjkfoaa.N7
