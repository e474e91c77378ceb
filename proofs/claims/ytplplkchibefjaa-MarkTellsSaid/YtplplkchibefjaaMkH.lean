/-
  Contract of Tick.
-/
import Derived.Test.YtplplkchibefjaaMkG
namespace Go.Proofs.Ytplplkchibefjaa.M5
open Go.RowKit Go.Shelf Go.Proofs.Ytplplkchibefjaa.B

theorem mk_set0 (l : List Mk) (k : Nat) (hk : k < l.length) (b : Bool) : (l.flatMap mkC).set (k * 3 + 0) (.bool b) = (l.set k { l[k]! with inn := b }).flatMap mkC :=
  flat_set mkC 3 (fun _ => rfl) l k hk 0 (by omega) _ _ (fun x hx => by rw [← get_some hx]; rfl)
theorem mk_set1 (l : List Mk) (k : Nat) (hk : k < l.length) (i : Int) : (l.flatMap mkC).set (k * 3 + 1) (.int .i64 i) = (l.set k { l[k]! with age := i }).flatMap mkC :=
  flat_set mkC 3 (fun _ => rfl) l k hk 1 (by omega) _ _ (fun x hx => by rw [← get_some hx]; rfl)
theorem mk_set2 (l : List Mk) (k : Nat) (hk : k < l.length) (i : Int) : (l.flatMap mkC).set (k * 3 + 2) (.int .i64 i) = (l.set k { l[k]! with due := i }).flatMap mkC :=
  flat_set mkC 3 (fun _ => rfl) l k hk 2 (by omega) _ _ (fun x hx => by rw [← get_some hx]; rfl)
/-- A mark is stored into a row of marks. -/
theorem own_put {w : World} {B g n cap : Nat} {l : List Mk} {k : Nat} (h : w.ownsRow B 77 3 (.slice (some ⟨g, 0, none⟩) n cap) n (l.flatMap mkC)) (hk : k < l.length) (y : Mk) :
    ((((w.setCell ⟨g, k * 3, none⟩ (.bool y.inn)).setCell ⟨g, k * 3 + 1, none⟩ (.int .i64 y.age)).setCell ⟨g, k * 3 + 2, none⟩ (.int .i64 y.due)).ownsRow B 77 3 (.slice (some ⟨g, 0, none⟩) n cap) n ((l.set k y).flatMap mkC)) ∧
    w.grownBy (((w.setCell ⟨g, k * 3, none⟩ (.bool y.inn)).setCell ⟨g, k * 3 + 1, none⟩ (.int .i64 y.age)).setCell ⟨g, k * 3 + 2, none⟩ (.int .i64 y.due)) (some g) := by
  have h0 := h.stored (k * 3 + 0) (.bool y.inn)
  rw [mk_set0 l k hk] at h0
  have h1 := h0.1.stored (k * 3 + 1) (.int .i64 y.age)
  rw [mk_set1 _ k (by simpa using hk), set_here hk, List.set_set] at h1
  have h2 := h1.1.stored (k * 3 + 2) (.int .i64 y.due)
  rw [mk_set2 _ k (by simpa using hk), set_here hk, List.set_set] at h2
  refine ⟨h2.1, ⟨rfl, rfl, rfl, by simp, fun i hi hne => ?_⟩⟩
  exact (h2.2.block i (by simpa using hi) hne).trans ((h1.2.block i (by simpa using hi) hne).trans (h0.2.block i hi hne))
/-- The cells of a mark in a row of marks. -/
theorem own_mk {w : World} {B g n cap : Nat} {l : List Mk} {k : Nat} (h : w.ownsRow B 77 3 (.slice (some ⟨g, 0, none⟩) n cap) n (l.flatMap mkC)) (hl : l.length = n) (hk : k < n) :
    w.cell? ⟨g, k * 3, none⟩ = some (.bool l[k]!.inn) ∧ w.cell? ⟨g, k * 3 + 1, none⟩ = some (.int .i64 l[k]!.age) ∧ w.cell? ⟨g, k * 3 + 2, none⟩ = some (.int .i64 l[k]!.due) := by
  have hf := fun j hj => flat_at mkC 3 (fun _ => rfl) l k (by omega) j hj
  refine ⟨(h.cellAt (k * 3) (by omega)).trans (hf 0 (by omega)), (h.cellAt (k * 3 + 1) (by omega)).trans (hf 1 (by omega)), (h.cellAt (k * 3 + 2) (by omega)).trans (hf 2 (by omega))⟩
/-- The first k marks of a list are older by a tick. -/
def mixL (l : List Mk) (k : Nat) : List Mk := (l.take k).map oldM ++ l.drop k
theorem mix_zero (l : List Mk) : mixL l 0 = l := by simp [mixL]
theorem mix_all (l : List Mk) : mixL l l.length = l.map oldM := by simp [mixL]
theorem mix_len {l : List Mk} {k : Nat} : (mixL l k).length = l.length := by simp [mixL]; omega
theorem mix_at {l : List Mk} {k : Nat} (hk : k < l.length) : (mixL l k)[k]! = l[k]! := by
  rw [getElem!_pos _ k (by rw [mix_len]; exact hk), getElem!_pos l k hk]
  unfold mixL
  rw [List.getElem_append_right (by simp; omega)]
  simp [Nat.min_eq_left (Nat.le_of_lt hk)]
theorem mix_next {l : List Mk} {k : Nat} (hk : k < l.length) : (mixL l k).set k (oldM l[k]!) = mixL l (k + 1) := by
  unfold mixL
  have hl : ((l.take k).map oldM).length = k := by simp; omega
  rw [List.set_append_right _ _ (by omega), hl, Nat.sub_self, List.drop_eq_getElem_cons hk, List.set_cons_zero, map_next hk]
  simp
def tickE (n : Nat) (l : List Mk) : Int := if fitsB n l then (if slackL l = 0 then 13 else 0) else 1
/-- What Tick answers. -/
structure TickEnd (w : World) (n : Nat) (l : List Mk) (e : Ending) (w' : World) : Prop where
  b : Below w.heap.size w w'
  r : ∃ v, e = .returned (.tuple #[v, .int .i64 (tickE n l)]) ∧ (tickE n l = 0 → w'.ownsRow w.heap.size 77 3 v l.length ((l.map oldM).flatMap mkC)) ∧ (tickE n l ≠ 0 → v = .slice none 0 0)
set_option maxRecDepth 100000 in
set_option maxHeartbeats 4000000 in
theorem tick_any (w : World) (EA TA A : Option Addr) (en ec tn tc c : Nat) (l : List Mk) (hr : Row w A (l.flatMap mkC)) (hl : l.length * 24 ≤ 140737488351232) :
    Calls Try.prog 43 #[.agg #[.slice EA en ec, .slice TA tn tc], .slice A l.length c] w (TickEnd w en l) := by
  have hb := (Below.refl w.heap.size w).alloc (Nat.le_refl _) (.cells #[.slice EA en ec, .slice TA tn tc] 32)
  have C := Lib.hid (slack_any (w.alloc (.cells #[.slice EA en ec, .slice TA tn tc] 32)) EA TA A en ec tn tc c l (hr.below (Nat.le_refl _) hb) hl)
  have HB := Lib.hid hb
  have HR := Lib.hid hr
  have HS : Hid (slackI en l = if fitsB en l then slackL l else -1) := Lib.hid rfl
  have HE : Hid (tickE en l = if fitsB en l then (if slackL l = 0 then 13 else 0) else 1) := Lib.hid rfl
  clear hb hr
  cases hf : fitsB en l with
  | false =>
    rw [hf] at HS HE
    rw [HS.out] at C
    clear hf
    go_enter Try.func43, Try.ntmps43
    go_wp2_with fail
    refine C.out.mono ?_
    rintro e w3 ⟨rfl, hb3⟩
    have HB3 := Lib.hid (HB.out.trans (hb3.mono HB.out.size))
    clear hb3
    go_wp2_with fail
    go_ret2
    have e1 : tickE en l = 1 := HE.out
    exact ⟨HB3.out, _, by rw [e1]; rfl, fun h => absurd (e1.symm.trans h) (by decide), fun _ => rfl⟩
  | true =>
    have HF := Lib.hid (fits_of hf).2
    have hge := slack_ge (fits_of hf).2 1048576 (by omega)
    rw [hf, if_pos rfl] at HS HE
    rw [HS.out] at C
    clear hf
    have hs0 : (0 : Int) ≤ slackL l := hge
    clear hge
    generalize slackL l = s at *
    by_cases h0 : s = 0
    · subst h0
      go_enter Try.func43, Try.ntmps43
      go_wp2_with fail
      refine C.out.mono ?_
      rintro e w3 ⟨rfl, hb3⟩
      have HB3 := Lib.hid (HB.out.trans (hb3.mono HB.out.size))
      clear hb3
      go_wp2_with fail
      go_ret2
      have e1 : tickE en l = 13 := HE.out
      exact ⟨HB3.out, _, by rw [e1]; rfl, fun h => absurd (e1.symm.trans h) (by decide), fun _ => rfl⟩
    · rw [if_neg h0] at HE
      have e1 : (s == -1) = false := by rw [beq_eq_false_iff_ne]; omega
      have e2 : (s == 0) = false := by rw [beq_eq_false_iff_ne]; omega
      clear h0 hs0
      go_enter Try.func43, Try.ntmps43
      go_wp2_with fail
      refine C.out.mono ?_
      rintro e w3 ⟨rfl, hb3⟩
      have HB3 := Lib.hid (HB.out.trans (hb3.mono HB.out.size))
      clear hb3 C
      have D := Lib.hid (copied_any w3 A c l (HR.out.below (Nat.le_refl _) HB3.out) hl)
      go_wp2_with fail
      refine D.out.mono ?_
      rintro e w4 ⟨rfl, ho4, hb4⟩
      have HB4 := Lib.hid (HB3.out.trans (hb4.mono HB3.out.size))
      have HO4 := Lib.hid (own_base ho4 HB3.out.size)
      have hg4 := HB3.out.size
      generalize w3.heap.size = G at *
      clear hb4 ho4 D HB3
      go_wp2_with fail
      go_loopw [20] (fun i wr => ∃ k : Nat, k ≤ l.length ∧ i = .int .i64 k ∧ Hid (wr.ownsRow w.heap.size 77 3 (.slice (some ⟨G, 0, none⟩) l.length l.length) l.length ((mixL l k).flatMap mkC)) ∧ Hid (Below w.heap.size w wr)) (fun i _ => l.length - (intOf i).toNat)
      case atStart => exact ⟨0, Nat.zero_le _, rfl, by rw [mix_zero]; exact HO4, HB4⟩
      case round =>
        clear HO4 HB4
        obtain ⟨k, hk, rfl, HO, HB⟩ := hrel
        by_cases hlt : k < l.length
        · obtain ⟨k0, k1, k2⟩ := own_mk HO.out mix_len hlt
          have hg0 := HO.out.lt G rfl
          have hok := bey_iff.2 (bey_iff.1 (HF.out l[k]! (mem_at hlt)))
          have HN := Lib.hid (mix_next hlt)
          rw [mix_at hlt] at k0 k1 k2
          have hz := HB.out.size
          generalize l[k]! = x at *
          have HX := Lib.hid (HB.out.alloc hz (.cells #[.bool x.inn, .int .i64 x.age, .int .i64 x.due] 77))
          have HOX := Lib.hid (HO.out.alloc (.cells #[.bool x.inn, .int .i64 x.age, .int .i64 x.due] 77))
          have E := Lib.hid (older_any x hok (wr.alloc (.cells #[.bool x.inn, .int .i64 x.age, .int .i64 x.due] 77)))
          clear hok
          go_wp2_with fail
          refine E.out.mono ?_
          rintro e w5 ⟨rfl, hb5⟩
          have HB5 := Lib.hid (HX.out.trans (hb5.mono HX.out.size))
          have hO5 := own_below HOX.out hb5
          have hfr := fun j => hO5.frozenAt j
          obtain ⟨y0, y1, y2⟩ := own_mk hO5 mix_len hlt
          have f0 := hfr (k * 3)
          have f1 := hfr (k * 3 + 1)
          have f2 := hfr (k * 3 + 2)
          have hp := own_put hO5 (by rw [mix_len]; exact hlt) (oldM x)
          rw [HN.out] at hp
          have HO6 := Lib.hid hp.1
          have HB6 := Lib.hid (HB5.out.grown hp.2 HB5.out.size (fun j e => by cases e; exact hg4))
          generalize oldM x = y at *
          clear hb5 E HX HOX HB5 hO5 hfr hp k0 k1 k2
          go_wp2_with fail
          go_roundw
          case rel => exact ⟨k + 1, hlt, by go_num, HO6, HB6⟩
          case measure => simp [intOf]; omega
        · obtain rfl : k = l.length := by omega
          rw [mix_all] at HO
          go_wp2_with fail
          go_ret2
          exact ⟨HB.out, _, by rw [HE.out]; rfl, fun _ => HO.out, fun h => absurd HE.out h⟩
end Go.Proofs.Ytplplkchibefjaa.M5
