/-
  Contracts of needs.joined at sets of ints, and of needs.rising.
-/
import Derived.Test.YtaagpnepkjkfoaaNdC
import Derived.Test.YtaagpnepkjkfoaaShelfI
namespace Go.Proofs.Ytaagpnepkjkfoaa.N7
open Go.RowKit Go.Shelf Go.Proofs.Ytaagpnepkjkfoaa.B Go.Proofs.Ytaagpnepkjkfoaa.R6

/-- A set of points: where it lies, how often it was put into, which points. -/
structure Mp where
  b : Nat
  c : Nat
  s : Nat → Bool
instance : Inhabited Mp := ⟨⟨0, 0, fun _ => false⟩⟩
def mpV (m : Mp) : Value := .map (some m.b)
/-- A list of sets lies there. -/
structure MsIn (W : World) (A : Option Addr) (N : Nat) (l : List Mp) : Prop where
  row : Row W A (l.map mpV)
  m : ∀ x ∈ l, MS 3 W x.b x.c (IL N x.s) ∧ x.c ≤ 1000000
theorem MsIn.below {W W' : World} {A : Option Addr} {N : Nat} {l : List Mp} (h : MsIn W A N l) (hb : Below W.heap.size W W') : MsIn W' A N l := ⟨h.row.below (Nat.le_refl _) hb, fun x hx => ⟨(h.m x hx).1.below hb, (h.m x hx).2⟩⟩
theorem row_mp {w : World} {A : Option Addr} {l : List Mp} (h : Row w A (l.map mpV)) {i : Nat} (hi : i < l.length) : ∃ b off, A = some ⟨b, off, none⟩ ∧ b < w.heap.size ∧ w.cell? ⟨b, off + i, none⟩ = some (.map (some l[i]!.b)) := by
  obtain ⟨b, off, h1, h2, h3⟩ := h (fun e => by have := congrArg List.length e; simp at this; rw [this] at hi; simp at hi)
  exact ⟨b, off, h1, h2, h3 i _ (by rw [List.getElem?_map, List.getElem?_eq_getElem hi, getElem!_pos l i hi]; rfl)⟩
def orB (l : List Mp) (i : Nat) : Bool := l.any fun m => m.s i
theorem or_next {l : List Mp} {k N : Nat} (hk : k < l.length) (x : Lit) : (IL N (orB (l.take k)) x ∨ IL N l[k]!.s x) ↔ IL N (orB (l.take (k + 1))) x := by
  unfold IL orB
  rw [take_next hk]
  simp only [List.any_append, List.any_cons, List.any_nil, Bool.or_false, Bool.or_eq_true]
  constructor
  · rintro (⟨i, h1, h2, h3⟩ | ⟨i, h1, h2, h3⟩)
    · exact ⟨i, h1, .inl h2, h3⟩
    · exact ⟨i, h1, .inr h2, h3⟩
  · rintro ⟨i, h1, h2 | h2, h3⟩
    · exact .inl ⟨i, h1, h2, h3⟩
    · exact .inr ⟨i, h1, h2, h3⟩
theorem mkM (w : World) : (Instr.makeMap 84 none).run Try.prog w = .ok (.map (some w.heap.size)) (w.alloc (.map #[] 0)) := by
  simp [Instr.makeMap, Result.andThen]
/-- What stands while sets are joined. -/
structure JI (w : World) (A : Option Addr) (N : Nat) (l : List Mp) (k : Nat) (W : World) : Prop where
  m : MS 3 W w.heap.size (1000000 * k) (IL N (orB (l.take k)))
  l : Below w.heap.size w W

set_option maxRecDepth 100000 in
set_option maxHeartbeats 4000000 in
theorem joined_int (w : World) (A : Option Addr) (c N : Nat) (l : List Mp) (h : MsIn w A N l) (hl : l.length ≤ 10) :
    Calls Try.prog 82 #[.slice A l.length c] w fun e w' => e = .returned (.map (some w.heap.size)) ∧ MS 3 w' w.heap.size 10000000 (IL N (orB l)) ∧ Below w.heap.size w w' := by
  have H := Lib.hid h
  have hmk := mkM w
  have J0 : Hid (JI w A N l 0 (w.alloc (.map #[] 0))) := Lib.hid ⟨(MS.made _ w).congr (fun x => ⟨fun h => h.elim, fun ⟨i, _, h, _⟩ => by simp [orB] at h⟩), (Below.refl _ _).alloc (Nat.le_refl _) _⟩
  clear h
  go_enter Try.func82, Try.ntmps82
  go_wp2_with fail
  go_loopw [9] (fun i wr => ∃ k : Nat, k ≤ l.length ∧ i = .int .i64 k ∧ Hid (JI w A N l k wr)) (fun i _ => l.length - (intOf i).toNat)
  case atStart => exact ⟨0, Nat.zero_le _, rfl, J0⟩
  case round =>
    clear J0 hmk
    obtain ⟨k, hk, rfl, JJ⟩ := hrel
    by_cases hlt : k < l.length
    · have hk0 : (0 : Int) ≤ (k : Int) := Int.natCast_nonneg _
      have hk1 : (k : Int) < (l.length : Int) := by omega
      obtain ⟨b1, off1, rfl, hb1, hc1⟩ := row_mp H.out.row hlt
      rw [← JJ.out.l.cell (p := ⟨b1, _, none⟩) hb1] at hc1
      obtain ⟨g1, g2⟩ := H.out.m _ (Go.Proofs.Ytaagpnepkjkfoaa.B.mem_at hlt)
      have HM := Lib.hid g1
      have hbl := g1.lt
      have HC := Lib.hid (copy_int wr w.heap.size l[k]!.b (1000000 * k) l[k]!.c _ _ JJ.out.m (g1.block (JJ.out.l.block _ hbl)) (by omega) (by unfold maxLen; omega))
      have HO := Lib.hid (or_next (N := N) hlt)
      have HBB := Lib.hid JJ.out.l
      clear g1 JJ
      generalize l[k]! = x at *
      go_wp2_with fail
      refine HC.out.mono ?_
      rintro e w2 ⟨rfl, h1, h2⟩
      have J2 : Hid (JI w (some ⟨b1, off1, none⟩) N l (k + 1) w2) := Lib.hid ⟨(h1.mono (by omega)).congr HO.out, HBB.out.grown h2 HBB.out.size (fun j hj => by cases hj; exact Nat.le_refl _)⟩
      clear h1 h2 HC HO HBB HM hc1
      go_wp2_with fail
      go_roundw
      case rel => exact ⟨k + 1, hlt, by go_num, J2⟩
      case measure => simp [intOf]; omega
    · obtain rfl : k = l.length := by omega
      have hm := JJ.out.m
      rw [List.take_length] at hm
      have HM := Lib.hid (hm.mono (show 1000000 * l.length ≤ 10000000 by omega))
      have HB := Lib.hid JJ.out.l
      clear hm JJ
      go_wp2_with fail
      go_ret
      exact ⟨rfl, HM.out, HB.out⟩

theorem sortsI (m : Nat) : AnyZI.SortsIn Try.prog I.sortedI_ren Fence.wide m :=
  ⟨fun blk off cap ss W hH hblk hsz => callsIn_wide.2 (I.slices_Sort_int blk off cap ss W hH hblk hsz), fun p cap W => callsIn_wide.2 (I.slices_Sort_int_none p cap W)⟩
set_option maxRecDepth 100000 in
set_option maxHeartbeats 4000000 in
theorem rising_any (w : World) (A : Option Addr) (c N : Nat) (l : List Mp) (h : MsIn w A N l) (hl : l.length ≤ 10) (hN : N ≤ 1000000) :
    Calls Try.prog 52 #[.slice A l.length c] w fun e w' => ∃ v, e = .returned v ∧ w'.ownsRow w.heap.size 3 1 v (inL N (orB l)).length ((inL N (orB l)).map (Value.int .i64)) ∧ Below w.heap.size w w' := by
  have CJ := joined_int w A c N l h hl
  generalize orB l = S at *
  clear h hl
  refine (callsIn_wide (n := 6)).1 ?_
  have cJ := (callsIn_wide (n := 5)).2 CJ
  clear CJ
  have hfJ : Fence.wide.fn 82 := trivial
  have hfK : Fence.wide.fn 81 := trivial
  have hfS : Fence.wide.fn 80 := trivial
  have cK : ∀ mb W, CallsIn Fence.wide 5 Try.prog 81 #[.map mb] W fun e w' => e = .returned (.func (.func 90) #[] #[.pointer (some ⟨W.heap.size, 0, none⟩)]) ∧ w' = W.alloc (.cells #[.map mb] 84) := fun mb W => AnyZI.keys_in I.keysI Fence.wide 5 trivial rfl mb W
  refine callsIn_of_wp Try.func52 rfl trivial ?_ rfl
  simp only [Try.ntmps52, List.size_toArray, List.length_cons, List.length_nil, Nat.reduceAdd, Nat.reduceSub, Array.replicate_succ, Array.replicate_zero, List.push_toArray, List.append_toArray, List.nil_append, List.cons_append]
  gi_wp2_with (gi_at_call 82; refine cJ.mono ?_; rintro e w1 ⟨rfl, hm, hb⟩)
  obtain ⟨D, hown, hperm, hsz⟩ := hm.keys
  have hmax : Maps.size D ≤ maxLen := by unfold maxLen; omega
  have hbytes : Maps.size D * 8 ≤ 140737488355328 := by omega
  have hseq : SeqGives Fence.wide 2 Try.prog 90 #[.pointer (some ⟨w1.heap.size, 0, none⟩)] encZ (fun ss => ss.Perm (intKeys D)) (Maps.size D) (w1.alloc (.cells #[.map (some w.heap.size)] 84)) :=
    AnyZI.keys_gives (ρ := I.keysI_ren) { I.keysI with } Fence.wide _ trivial rfl (by omega) w1.heap.size w.heap.size 10000000 D _ (by simp) (by simp) (hown.alloc _)
  have cS := AnyZI.sorted_in I.sortedI Fence.wide 5 trivial trivial trivial trivial rfl (by omega) (sortsI _) (enters_of Try.func63 (by kernel_rfl) rfl) 90 #[.pointer (some ⟨w1.heap.size, 0, none⟩)] trivial (enters_of Try.func90 (by kernel_rfl) rfl) _ _ hmax hbytes _ hseq
  change CallsIn _ _ Try.prog 80 _ _ _ at cS
  have HP := Lib.hid hperm
  have HB := Lib.hid hb
  have hz := hb.size
  clear hown hperm hsz hmax hbytes hseq hm hb cJ
  gi_wp2_with (first
    | (gi_at_call 81; refine (cK _ _).mono ?_; rintro e w2 ⟨rfl, rfl⟩)
    | (gi_at_call 80; refine cS.mono ?_; rintro e w3 ⟨v, ss, rfl, hS, hrow, _, hb3⟩))
  have hss := keys_sorted HP.out hS
  have hlen : ss.length = (inL N S).length := (hS.trans HP.out.symm).length_eq
  rw [hss, hlen] at hrow
  have HR := Lib.hid hrow
  have HB3 := Lib.hid hb3
  clear hrow hss hlen hS hb3 cK cS
  go_ret
  exact ⟨v, rfl, own_base HR.out (by rw [World.size_alloc]; omega), (HB.out.alloc hz _).trans (HB3.out.mono (by rw [World.size_alloc]; omega))⟩
end Go.Proofs.Ytaagpnepkjkfoaa.N7
