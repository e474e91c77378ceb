/-
  Contracts of needs.joined at ways, and of needs.Net.
-/
import Derived.Test.YtaagpnepkjkfoaaNdV
import Derived.Deep.AppendLies
namespace Go.Proofs.Ytaagpnepkjkfoaa.N7
open Go.RowKit Go.Shelf Go.Proofs.Ytaagpnepkjkfoaa.B Go.Proofs.Ytaagpnepkjkfoaa.R6

/-- A set of ways: where it lies, how often it was put into, which ways. -/
structure Mw where
  b : Nat
  c : Nat
  s : Nat → Nat → Bool
instance : Inhabited Mw := ⟨⟨0, 0, fun _ _ => false⟩⟩
def mwV (m : Mw) : Value := .map (some m.b)
/-- A list of sets lies there. -/
structure MwIn (W : World) (A : Option Addr) (N : Nat) (l : List Mw) : Prop where
  row : Row W A (l.map mwV)
  m : ∀ x ∈ l, MS 92 W x.b x.c (WL N x.s) ∧ x.c ≤ 1000000
theorem MwIn.below {W W' : World} {A : Option Addr} {N : Nat} {l : List Mw} (h : MwIn W A N l) (hb : Below W.heap.size W W') : MwIn W' A N l := ⟨h.row.below (Nat.le_refl _) hb, fun x hx => ⟨(h.m x hx).1.below hb, (h.m x hx).2⟩⟩
theorem row_mw {w : World} {A : Option Addr} {l : List Mw} (h : Row w A (l.map mwV)) {i : Nat} (hi : i < l.length) : ∃ b off, A = some ⟨b, off, none⟩ ∧ b < w.heap.size ∧ w.cell? ⟨b, off + i, none⟩ = some (.map (some l[i]!.b)) := by
  obtain ⟨b, off, h1, h2, h3⟩ := h (fun e => by have := congrArg List.length e; simp at this; rw [this] at hi; simp at hi)
  exact ⟨b, off, h1, h2, h3 i _ (by rw [List.getElem?_map, List.getElem?_eq_getElem hi, getElem!_pos l i hi]; rfl)⟩
def orW (l : List Mw) (a b : Nat) : Bool := l.any fun m => m.s a b
theorem or_nextW {l : List Mw} {k N : Nat} (hk : k < l.length) (x : Lit) : (WL N (orW (l.take k)) x ∨ WL N l[k]!.s x) ↔ WL N (orW (l.take (k + 1))) x := by
  unfold WL orW
  rw [take_next hk]
  simp only [List.any_append, List.any_cons, List.any_nil, Bool.or_false, Bool.or_eq_true]
  constructor
  · rintro (⟨a, b, h1, h1', h2, h3⟩ | ⟨a, b, h1, h1', h2, h3⟩)
    · exact ⟨a, b, h1, h1', .inl h2, h3⟩
    · exact ⟨a, b, h1, h1', .inr h2, h3⟩
  · rintro ⟨a, b, h1, h1', h2 | h2, h3⟩
    · exact .inl ⟨a, b, h1, h1', h2, h3⟩
    · exact .inr ⟨a, b, h1, h1', h2, h3⟩
/-- What stands while sets are joined. -/
structure JW (w : World) (A : Option Addr) (N : Nat) (l : List Mw) (k : Nat) (W : World) : Prop where
  m : MS 92 W w.heap.size (1000000 * k) (WL N (orW (l.take k)))
  l : Below w.heap.size w W

set_option maxRecDepth 100000 in
set_option maxHeartbeats 4000000 in
theorem joined_way (w : World) (A : Option Addr) (c N : Nat) (l : List Mw) (h : MwIn w A N l) (hl : l.length ≤ 10) (hN : N ≤ 1000000) :
    Calls Try.prog 62 #[.slice A l.length c] w fun e w' => e = .returned (.map (some w.heap.size)) ∧ MS 92 w' w.heap.size 10000000 (WL N (orW l)) ∧ Below w.heap.size w w' := by
  have H := Lib.hid h
  have hmk := mkW w
  have J0 : Hid (JW w A N l 0 (w.alloc (.map #[] 0))) := Lib.hid ⟨(MS.made _ w).congr (fun x => ⟨fun h => h.elim, fun ⟨a, b, _, _, h, _⟩ => by simp [orW] at h⟩), (Below.refl _ _).alloc (Nat.le_refl _) _⟩
  clear h
  go_enter Try.func62, Try.ntmps62
  go_wp2_with fail
  go_loopw [9] (fun i wr => ∃ k : Nat, k ≤ l.length ∧ i = .int .i64 k ∧ Hid (JW w A N l k wr)) (fun i _ => l.length - (intOf i).toNat)
  case atStart => exact ⟨0, Nat.zero_le _, rfl, J0⟩
  case round =>
    clear J0 hmk
    obtain ⟨k, hk, rfl, JJ⟩ := hrel
    by_cases hlt : k < l.length
    · have hk0 : (0 : Int) ≤ (k : Int) := Int.natCast_nonneg _
      have hk1 : (k : Int) < (l.length : Int) := by omega
      obtain ⟨b1, off1, rfl, hb1, hc1⟩ := row_mw H.out.row hlt
      rw [← JJ.out.l.cell (p := ⟨b1, _, none⟩) hb1] at hc1
      obtain ⟨g1, g2⟩ := H.out.m _ (Go.Proofs.Ytaagpnepkjkfoaa.B.mem_at hlt)
      have HM := Lib.hid g1
      have hbl := g1.lt
      have HC := Lib.hid (copy_way wr w.heap.size l[k]!.b (1000000 * k) l[k]!.c N _ l[k]!.s JJ.out.m (g1.block (JJ.out.l.block _ hbl)) (by omega) (by unfold maxLen; omega) hN)
      have HO := Lib.hid (or_nextW (N := N) hlt)
      have HBB := Lib.hid JJ.out.l
      clear g1 JJ
      generalize l[k]! = x at *
      go_wp2_with fail
      refine HC.out.mono ?_
      rintro e w2 ⟨rfl, h1, h2⟩
      have J2 : Hid (JW w (some ⟨b1, off1, none⟩) N l (k + 1) w2) := Lib.hid ⟨(h1.mono (by omega)).congr HO.out, HBB.out.grown h2 HBB.out.size (fun j hj => by cases hj; exact Nat.le_refl _)⟩
      clear h1 h2 HC HO HBB HM hc1
      go_wp2_with fail
      go_roundw
      case rel => exact ⟨k + 1, hlt, by go_num, J2⟩
      case measure => simp [intOf]; omega
    · obtain rfl : k = l.length := by omega
      have hm := JJ.out.m
      rw [List.take_length] at hm
      have HM := Lib.hid (hm.mono (show 1000000 * l.length ≤ 10000000 by omega))
      have HB := Lib.hid JJ.out.l
      clear hm JJ
      go_wp2_with fail
      go_ret
      exact ⟨rfl, HM.out, HB.out⟩

end Go.Proofs.Ytaagpnepkjkfoaa.N7
