/-
  Contracts of needs.joined at sets of ints, and of needs.rising. Contracts of needs.has, isBetweenEvents, blocks, calls, gathered at ints, events.
-/
import Derived.Test.YtigicbnkfmbolaaCah
namespace Go.Proofs.Ytigicbnkfmbolaa.N7
open Go.RowKit Go.Shelf Go.Proofs.Ytigicbnkfmbolaa.B Go.Proofs.Ytigicbnkfmbolaa.R6
/-- A set of points: where it lies, how often it was put into, which points. -/
structure Mp where
  b : Nat
  c : Nat
  s : Nat → Bool
instance : Inhabited Mp := ⟨⟨0, 0, fun _ => false⟩⟩
def mpV (m : Mp) : Value := .map (some m.b)
/-- A list of sets lies there. -/
structure MsIn (W : World) (A : Option Addr) (N : Nat) (l : List Mp) : Prop where
  row : Row W A (l.map mpV)
  m : ∀ x ∈ l, MS 3 W x.b x.c (IL N x.s) ∧ x.c ≤ 1000000
theorem MsIn.below {W W' : World} {A : Option Addr} {N : Nat} {l : List Mp} (h : MsIn W A N l) (hb : Below W.heap.size W W') : MsIn W' A N l := ⟨h.row.below (Nat.le_refl _) hb, fun x hx => ⟨(h.m x hx).1.below hb, (h.m x hx).2⟩⟩
theorem row_mp {w : World} {A : Option Addr} {l : List Mp} (h : Row w A (l.map mpV)) {i : Nat} (hi : i < l.length) : ∃ b off, A = some ⟨b, off, none⟩ ∧ b < w.heap.size ∧ w.cell? ⟨b, off + i, none⟩ = some (.map (some l[i]!.b)) := by
  obtain ⟨b, off, h1, h2, h3⟩ := h (fun e => by have := congrArg List.length e; simp at this; rw [this] at hi; simp at hi)
  exact ⟨b, off, h1, h2, h3 i _ (by rw [List.getElem?_map, List.getElem?_eq_getElem hi, getElem!_pos l i hi]; rfl)⟩
def orB (l : List Mp) (i : Nat) : Bool := l.any fun m => m.s i
theorem or_next {l : List Mp} {k N : Nat} (hk : k < l.length) (x : Lit) : (IL N (orB (l.take k)) x ∨ IL N l[k]!.s x) ↔ IL N (orB (l.take (k + 1))) x := by
  unfold IL orB
  rw [take_next hk]
  simp only [List.any_append, List.any_cons, List.any_nil, Bool.or_false, Bool.or_eq_true]
  constructor
  · rintro (⟨i, h1, h2, h3⟩ | ⟨i, h1, h2, h3⟩)
    · exact ⟨i, h1, .inl h2, h3⟩
    · exact ⟨i, h1, .inr h2, h3⟩
  · rintro ⟨i, h1, h2 | h2, h3⟩
    · exact .inl ⟨i, h1, h2, h3⟩
    · exact .inr ⟨i, h1, h2, h3⟩
theorem mkM (w : World) : (Instr.makeMap 52 none).run Try.prog w = .ok (.map (some w.heap.size)) (w.alloc (.map #[] 0)) := by
  simp [Instr.makeMap, Result.andThen]
/-- What stands while sets are joined. -/
structure JI (w : World) (A : Option Addr) (N : Nat) (l : List Mp) (k : Nat) (W : World) : Prop where
  m : MS 3 W w.heap.size (1000000 * k) (IL N (orB (l.take k)))
  l : Below w.heap.size w W
set_option maxRecDepth 100000 in
set_option maxHeartbeats 4000000 in
theorem joined_int (w : World) (A : Option Addr) (c N : Nat) (l : List Mp) (h : MsIn w A N l) (hl : l.length ≤ 10) :
    Calls Try.prog 46 #[.slice A l.length c] w fun e w' => e = .returned (.map (some w.heap.size)) ∧ MS 3 w' w.heap.size 10000000 (IL N (orB l)) ∧ Below w.heap.size w w' := by
  have H := Lib.hid h
  have hmk := mkM w
  have J0 : Hid (JI w A N l 0 (w.alloc (.map #[] 0))) := Lib.hid ⟨(MS.made _ w).congr (fun x => ⟨fun h => h.elim, fun ⟨i, _, h, _⟩ => by simp [orB] at h⟩), (Below.refl _ _).alloc (Nat.le_refl _) _⟩
  clear h
  go_enter Try.func46, Try.ntmps46
  go_wp2_with fail
  go_loopw [9] (fun i wr => ∃ k : Nat, k ≤ l.length ∧ i = .int .i64 k ∧ Hid (JI w A N l k wr)) (fun i _ => l.length - (intOf i).toNat)
  case atStart => exact ⟨0, Nat.zero_le _, rfl, J0⟩
  case round =>
    clear J0 hmk
    obtain ⟨k, hk, rfl, JJ⟩ := hrel
    by_cases hlt : k < l.length
    · have hk0 : (0 : Int) ≤ (k : Int) := Int.natCast_nonneg _
      have hk1 : (k : Int) < (l.length : Int) := by omega
      obtain ⟨b1, off1, rfl, hb1, hc1⟩ := row_mp H.out.row hlt
      rw [← JJ.out.l.cell (p := ⟨b1, _, none⟩) hb1] at hc1
      obtain ⟨g1, g2⟩ := H.out.m _ (Go.Proofs.Ytigicbnkfmbolaa.B.mem_at hlt)
      have HM := Lib.hid g1
      have hbl := g1.lt
      have HC := Lib.hid (copy_int wr w.heap.size l[k]!.b (1000000 * k) l[k]!.c _ _ JJ.out.m (g1.block (JJ.out.l.block _ hbl)) (by omega) (by unfold maxLen; omega))
      have HO := Lib.hid (or_next (N := N) hlt)
      have HBB := Lib.hid JJ.out.l
      clear g1 JJ
      generalize l[k]! = x at *
      go_wp2_with fail
      refine HC.out.mono ?_
      rintro e w2 ⟨rfl, h1, h2⟩
      have J2 : Hid (JI w (some ⟨b1, off1, none⟩) N l (k + 1) w2) := Lib.hid ⟨(h1.mono (by omega)).congr HO.out, HBB.out.grown h2 HBB.out.size (fun j hj => by cases hj; exact Nat.le_refl _)⟩
      clear h1 h2 HC HO HBB HM hc1
      go_wp2_with fail
      go_roundw
      case rel => exact ⟨k + 1, hlt, by go_num, J2⟩
      case measure => simp [intOf]; omega
    · obtain rfl : k = l.length := by omega
      have hm := JJ.out.m
      rw [List.take_length] at hm
      have HM := Lib.hid (hm.mono (show 1000000 * l.length ≤ 10000000 by omega))
      have HB := Lib.hid JJ.out.l
      clear hm JJ
      go_wp2_with fail
      go_ret
      exact ⟨rfl, HM.out, HB.out⟩
theorem sortsI (m : Nat) : AnyZI.SortsIn Try.prog I.sortedI_ren Fence.wide m :=
  ⟨fun blk off cap ss W hH hblk hsz => callsIn_wide.2 (I.slices_Sort_int blk off cap ss W hH hblk hsz), fun p cap W => callsIn_wide.2 (I.slices_Sort_int_none p cap W)⟩
set_option maxRecDepth 100000 in
set_option maxHeartbeats 4000000 in
theorem rising_any (w : World) (A : Option Addr) (c N : Nat) (l : List Mp) (h : MsIn w A N l) (hl : l.length ≤ 10) (hN : N ≤ 1000000) :
    Calls Try.prog 23 #[.slice A l.length c] w fun e w' => ∃ v, e = .returned v ∧ w'.ownsRow w.heap.size 3 1 v (inL N (orB l)).length ((inL N (orB l)).map (Value.int .i64)) ∧ Below w.heap.size w w' := by
  have CJ := joined_int w A c N l h hl
  generalize orB l = S at *
  clear h hl
  refine (callsIn_wide (n := 6)).1 ?_
  have cJ := (callsIn_wide (n := 5)).2 CJ
  clear CJ
  have hfJ : Fence.wide.fn 46 := trivial
  have hfK : Fence.wide.fn 45 := trivial
  have hfS : Fence.wide.fn 44 := trivial
  have cK : ∀ mb W, CallsIn Fence.wide 5 Try.prog 45 #[.map mb] W fun e w' => e = .returned (.func (.func 57) #[] #[.pointer (some ⟨W.heap.size, 0, none⟩)]) ∧ w' = W.alloc (.cells #[.map mb] 52) := fun mb W => AnyZI.keys_in I.keysI Fence.wide 5 trivial rfl mb W
  refine callsIn_of_wp Try.func23 rfl trivial ?_ rfl
  simp only [Try.ntmps23, List.size_toArray, List.length_cons, List.length_nil, Nat.reduceAdd, Nat.reduceSub, Array.replicate_succ, Array.replicate_zero, List.push_toArray, List.append_toArray, List.nil_append, List.cons_append]
  gi_wp2_with (gi_at_call 46; refine cJ.mono ?_; rintro e w1 ⟨rfl, hm, hb⟩)
  obtain ⟨D, hown, hperm, hsz⟩ := hm.keys
  have hmax : Maps.size D ≤ maxLen := by unfold maxLen; omega
  have hbytes : Maps.size D * 8 ≤ 140737488355328 := by omega
  have hseq : SeqGives Fence.wide 2 Try.prog 57 #[.pointer (some ⟨w1.heap.size, 0, none⟩)] encZ (fun ss => ss.Perm (intKeys D)) (Maps.size D) (w1.alloc (.cells #[.map (some w.heap.size)] 52)) :=
    AnyZI.keys_gives (ρ := I.keysI_ren) { I.keysI with } Fence.wide _ trivial rfl (by omega) w1.heap.size w.heap.size 10000000 D _ (by simp) (by simp) (hown.alloc _)
  have cS := AnyZI.sorted_in I.sortedI Fence.wide 5 trivial trivial trivial trivial rfl (by omega) (sortsI _) (enters_of Try.func34 (by kernel_rfl) rfl) 57 #[.pointer (some ⟨w1.heap.size, 0, none⟩)] trivial (enters_of Try.func57 (by kernel_rfl) rfl) _ _ hmax hbytes _ hseq
  change CallsIn _ _ Try.prog 44 _ _ _ at cS
  have HP := Lib.hid hperm
  have HB := Lib.hid hb
  have hz := hb.size
  clear hown hperm hsz hmax hbytes hseq hm hb cJ
  gi_wp2_with (first
    | (gi_at_call 45; refine (cK _ _).mono ?_; rintro e w2 ⟨rfl, rfl⟩)
    | (gi_at_call 44; refine cS.mono ?_; rintro e w3 ⟨v, ss, rfl, hS, hrow, _, hb3⟩))
  have hss := keys_sorted HP.out hS
  have hlen : ss.length = (inL N S).length := (hS.trans HP.out.symm).length_eq
  rw [hss, hlen] at hrow
  have HR := Lib.hid hrow
  have HB3 := Lib.hid hb3
  clear hrow hss hlen hS hb3 cK cS
  go_ret
  exact ⟨v, rfl, own_base HR.out (by rw [World.size_alloc]; omega), (HB.out.alloc hz _).trans (HB3.out.mono (by rw [World.size_alloc]; omega))⟩
end Go.Proofs.Ytigicbnkfmbolaa.N7

namespace Go.Proofs.Ytigicbnkfmbolaa.N7
open Go.RowKit Go.Shelf Go.Proofs.Ytigicbnkfmbolaa.B Go.Proofs.Ytigicbnkfmbolaa.R6
def hasP (N : Nat) (x : Int) : Bool := decide (0 ≤ x) && decide (x < (N : Int))
theorem hasP_iff {N : Nat} {x : Int} : hasP N x = true ↔ 0 ≤ x ∧ x < (N : Int) := by unfold hasP; rw [Bool.and_eq_true, decide_eq_true_eq, decide_eq_true_eq]
def btw (N : Nat) (t : Ti) : Bool := hasP N t.fr && hasP N t.to
def blkK (t : Ti) : Bool := t.kind == 1 || t.kind == 5
def clK (t : Ti) : Bool := t.kind == 2
abbrev FV (EA TA : Option Addr) (en ec tn tc : Nat) : Value := .agg #[.slice EA en ec, .slice TA tn tc]
abbrev tiW (t : Ti) : Value := .agg #[.int .i64 t.kind, .int .i64 t.fr, .int .i64 t.to, .int .i64 t.time]
section
variable (w : World) (EA TA : Option Addr) (en ec tn tc : Nat)
set_option maxHeartbeats 1000000 in
theorem has_any (x : Int) : Calls Try.prog 55 #[FV EA TA en ec tn tc, .int .i64 x] w fun e w' => e = .returned (.bool (hasP en x)) ∧ Below w.heap.size w w' := by
  have hb : Below w.heap.size w (w.alloc (.cells #[.slice EA en ec, .slice TA tn tc] 25)) := (Below.refl _ _).alloc (Nat.le_refl _) _
  by_cases h0 : 0 ≤ x
  · by_cases h1 : x < (en : Int)
    · have HE : Hid (hasP en x = true) := Lib.hid (hasP_iff.2 ⟨h0, h1⟩)
      go_enter Try.func55, Try.ntmps55
      go_wp2_with fail
      go_ret
      exact ⟨ret_bool HE.out.symm, hb⟩
    · have HE : Hid (hasP en x = false) := Lib.hid (by unfold hasP; rw [decide_eq_false h1, Bool.and_false])
      go_enter Try.func55, Try.ntmps55
      go_wp2_with fail
      go_ret
      exact ⟨ret_bool HE.out.symm, hb⟩
  · have HE : Hid (hasP en x = false) := Lib.hid (by unfold hasP; rw [decide_eq_false h0, Bool.false_and])
    go_enter Try.func55, Try.ntmps55
    go_wp2_with fail
    go_ret
    exact ⟨ret_bool HE.out.symm, hb⟩
set_option maxHeartbeats 1000000 in
theorem btw_any (t : Ti) : Calls Try.prog 43 #[FV EA TA en ec tn tc, tiW t] w fun e w' => e = .returned (.bool (btw en t)) ∧ Below w.heap.size w w' := by
  have HB : Hid (btw en t = (hasP en t.fr && hasP en t.to)) := Lib.hid rfl
  have n1 := heap_new w (.cells #[.slice EA en ec, .slice TA tn tc] 25)
  have n2 := heap_new (w.alloc (.cells #[.slice EA en ec, .slice TA tn tc] 25)) (.cells #[.int .i64 t.kind, .int .i64 t.fr, .int .i64 t.to, .int .i64 t.time] 49)
  rw [World.size_alloc] at n2
  have n1' := heap_old (o := .cells #[.int .i64 t.kind, .int .i64 t.fr, .int .i64 t.to, .int .i64 t.time] 49) (by rw [World.size_alloc]; omega) n1
  have hb : Below w.heap.size w ((w.alloc (.cells #[.slice EA en ec, .slice TA tn tc] 25)).alloc (.cells #[.int .i64 t.kind, .int .i64 t.fr, .int .i64 t.to, .int .i64 t.time] 49)) := ((Below.refl _ _).alloc (Nat.le_refl _) _).alloc (by rw [World.size_alloc]; omega) _
  have HBB := Lib.hid hb
  have N1 := Lib.hid n1'
  have N2 := Lib.hid n2
  clear n1 n2 n1' hb
  go_enter Try.func43, Try.ntmps43
  go_wp2_with fail
  refine (has_any _ EA TA en ec tn tc t.fr).mono ?_
  rintro e w1 ⟨rfl, hb1⟩
  have c0 : w1.cell? ⟨w.heap.size, 0, none⟩ = some (.slice EA en ec) := cell_blk ((hb1.block _ (by rw [World.size_alloc, World.size_alloc]; omega)).trans N1.out) rfl
  have c1 : w1.cell? ⟨w.heap.size, 1, none⟩ = some (.slice TA tn tc) := cell_blk ((hb1.block _ (by rw [World.size_alloc, World.size_alloc]; omega)).trans N1.out) rfl
  have c2 : w1.cell? ⟨w.heap.size + 1, 2, none⟩ = some (.int .i64 t.to) := cell_blk ((hb1.block _ (by rw [World.size_alloc, World.size_alloc]; omega)).trans N2.out) rfl
  have B1 := Lib.hid (HBB.out.trans (hb1.mono HBB.out.size))
  clear hb1 HBB N1 N2
  cases hq : hasP en t.fr with
  | false =>
    rw [hq, Bool.false_and] at HB
    clear hq
    go_wp2_with fail
    go_ret
    exact ⟨ret_bool HB.out.symm, B1.out⟩
  | true =>
    rw [hq, Bool.true_and] at HB
    clear hq
    have HC := Lib.hid (has_any w1 EA TA en ec tn tc t.to)
    go_wp2_with fail
    refine HC.out.mono ?_
    rintro e w2 ⟨rfl, hb2⟩
    have B2 := Lib.hid (B1.out.trans (hb2.mono B1.out.size))
    clear hb2
    go_wp2_with fail
    go_ret
    exact ⟨ret_bool HB.out.symm, B2.out⟩
end
set_option maxHeartbeats 1000000 in
theorem blocks_any (w : World) (t : Ti) : Calls Try.prog 26 #[tiW t] w fun e w' => e = .returned (.bool (blkK t)) ∧ Below w.heap.size w w' := by
  have hb : Below w.heap.size w (w.alloc (.cells #[.int .i64 t.kind, .int .i64 t.fr, .int .i64 t.to, .int .i64 t.time] 49)) := (Below.refl _ _).alloc (Nat.le_refl _) _
  unfold blkK
  cases hk : (t.kind == 1)
  · go_enter Try.func26, Try.ntmps26
    go_wp2_with fail
    go_ret
    exact ⟨rfl, hb⟩
  · go_enter Try.func26, Try.ntmps26
    go_wp2_with fail
    go_ret
    exact ⟨rfl, hb⟩
set_option maxHeartbeats 1000000 in
theorem calls_any (w : World) (t : Ti) : Calls Try.prog 29 #[tiW t] w fun e w' => e = .returned (.bool (clK t)) ∧ Below w.heap.size w w' := by
  have hb : Below w.heap.size w (w.alloc (.cells #[.int .i64 t.kind, .int .i64 t.fr, .int .i64 t.to, .int .i64 t.time] 49)) := (Below.refl _ _).alloc (Nat.le_refl _) _
  unfold clK
  go_enter Try.func29, Try.ntmps29
  go_wp2_with fail
  go_ret
  exact ⟨rfl, hb⟩
/-- What a look finds in some ties. -/
def gB (N : Nat) (key : Ti → Int) (ok : Ti → Bool) (ts : List Ti) (i : Nat) : Bool := ts.any fun t => ok t && btw N t && (key t == (i : Int))
theorem gB_next {N : Nat} {key : Ti → Int} {ok : Ti → Bool} {ts : List Ti} {k : Nat} (hk : k < ts.length) (i : Nat) : gB N key ok (ts.take (k + 1)) i = (gB N key ok (ts.take k) i || (ok ts[k]! && btw N ts[k]! && (key ts[k]! == (i : Int)))) := by
  unfold gB
  rw [take_next hk, List.any_append]; simp
theorem gB_skip {N : Nat} {key : Ti → Int} {ok : Ti → Bool} {ts : List Ti} {k : Nat} (hk : k < ts.length) (h : (ok ts[k]! && btw N ts[k]!) = false) (l : Lit) : IL N (gB N key ok (ts.take k)) l ↔ IL N (gB N key ok (ts.take (k + 1))) l := by
  unfold IL
  simp only [gB_next hk, h, Bool.false_and, Bool.or_false]
theorem gB_put {N : Nat} {key : Ti → Int} {ok : Ti → Bool} {ts : List Ti} {k x : Nat} (hk : k < ts.length) (h : (ok ts[k]! && btw N ts[k]!) = true) (hx : key ts[k]! = (x : Int)) (hxN : x < N) (l : Lit) : (IL N (gB N key ok (ts.take k)) l ∨ l = litI x) ↔ IL N (gB N key ok (ts.take (k + 1))) l := by
  unfold IL
  simp only [gB_next hk, h, Bool.true_and, hx, Bool.or_eq_true, beq_iff_eq]
  constructor
  · rintro (⟨i, h1, h2, h3⟩ | rfl)
    · exact ⟨i, h1, .inl h2, h3⟩
    · exact ⟨x, hxN, .inr rfl, rfl⟩
  · rintro ⟨i, h1, h2 | h2, h3⟩
    · exact .inl ⟨i, h1, h2, h3⟩
    · exact .inr (by rw [h3, show x = i by omega])
/-- What stands while ties are gone through. -/
structure GI (w : World) (EA TA : Option Addr) (en ec tn tc N : Nat) (key : Ti → Int) (ok : Ti → Bool) (ts : List Ti) (k : Nat) (W : World) : Prop where
  m : MS 3 W (w.heap.size + 1) k (IL N (gB N key ok (ts.take k)))
  f : W.heap[w.heap.size]? = some (.cells #[.slice EA en ec, .slice TA tn tc] 25 (0, 0))
  l : Below w.heap.size w W
theorem GI.call {w W W' : World} {EA TA : Option Addr} {en ec tn tc N k : Nat} {key : Ti → Int} {ok : Ti → Bool} {ts : List Ti} (h : GI w EA TA en ec tn tc N key ok ts k W) (hb : Below W.heap.size W W') : GI w EA TA en ec tn tc N key ok ts k W' :=
  ⟨h.m.below hb, (hb.block _ (by have := h.m.lt; omega)).trans h.f, h.l.trans (hb.mono h.l.size)⟩
theorem GI.skip {w W : World} {EA TA : Option Addr} {en ec tn tc N k : Nat} {key : Ti → Int} {ok : Ti → Bool} {ts : List Ti} (h : GI w EA TA en ec tn tc N key ok ts k W) (e : ∀ l, IL N (gB N key ok (ts.take k)) l ↔ IL N (gB N key ok (ts.take (k + 1))) l) : GI w EA TA en ec tn tc N key ok ts (k + 1) W :=
  ⟨(h.m.mono (Nat.le_succ _)).congr e, h.f, h.l⟩
theorem GI.put {w W : World} {EA TA : Option Addr} {en ec tn tc N k x : Nat} {key : Ti → Int} {ok : Ti → Bool} {ts : List Ti} (h : GI w EA TA en ec tn tc N key ok ts k W) (hk : k < maxLen) (hx : x ≤ 9223372036854775807)
    (e : ∀ l, (IL N (gB N key ok (ts.take k)) l ∨ l = litI x) ↔ IL N (gB N key ok (ts.take (k + 1))) l) :
    ∃ w1, (Instr.mapUpdate 52 (.map (some (w.heap.size + 1))) (.int .i64 (x : Int)) (.agg #[])).run Try.prog W = .ok () w1 ∧ GI w EA TA en ec tn tc N key ok ts (k + 1) w1 := by
  obtain ⟨w1, h1, h2, h3⟩ := h.m.put lawI Try.underlying52 hk (keyI hx)
  have hz := h.m.lt
  exact ⟨w1, h1, h2.congr e, (h3.block _ (by omega) (fun e => by have := Option.some.inj e; omega)).trans h.f, h.l.grown h3 h.l.size (fun j hj => by cases hj; omega)⟩
set_option maxRecDepth 100000 in
set_option maxHeartbeats 4000000 in
theorem gathered_int (w : World) (EA TA : Option Addr) (en ec tc : Nat) (ts : List Ti) (key : Ti → Int) (ok : Ti → Bool) (fl : Nat) (lb : Array Value) (hr : Row w TA (ts.flatMap tiC)) (hl : ts.length ≤ 100000) (hen : en ≤ 1000000) (eg : ∀ args w, (callFunc fl args).run Try.prog w = .ok (.enter fl args) w)
    (hcall : ∀ (W : World) (t : Ti), Below w.heap.size w W → Calls Try.prog fl (#[tiW t] ++ lb) W fun e W' => e = .returned (.tuple #[.int .i64 (key t), .bool (ok t)]) ∧ Below W.heap.size W W') (hkey : ∀ t, btw en t = true → 0 ≤ key t ∧ key t < (en : Int)) :
    Calls Try.prog 24 #[FV EA TA en ec ts.length tc, .func (.func fl) #[] lb] w fun e w' => e = .returned (.map (some (w.heap.size + 1))) ∧ MS 3 w' (w.heap.size + 1) ts.length (IL en (gB en key ok ts)) ∧ Below w.heap.size w w' := by
  have HC := Lib.hid hcall
  have HR := Lib.hid hr
  have HK := Lib.hid hkey
  have hmk := mkM (w.alloc (.cells #[.slice EA en ec, .slice TA ts.length tc] 25))
  rw [World.size_alloc] at hmk
  have G0 : Hid (GI w EA TA en ec ts.length tc en key ok ts 0 ((w.alloc (.cells #[.slice EA en ec, .slice TA ts.length tc] 25)).alloc (.map #[] 0))) := Lib.hid (by
    have h1 := (MS.made 3 (w.alloc (.cells #[.slice EA en ec, .slice TA ts.length tc] 25))).congr (S' := IL en (gB en key ok (ts.take 0))) (fun x => ⟨fun h => h.elim, fun ⟨i, _, h, _⟩ => by simp [gB] at h⟩)
    rw [World.size_alloc] at h1
    exact ⟨h1, heap_old (by rw [World.size_alloc]; omega) (heap_new _ _), ((Below.refl _ _).alloc (Nat.le_refl _) _).alloc (by rw [World.size_alloc]; omega) _⟩)
  clear hcall hr hkey
  go_enter Try.func24, Try.ntmps24
  go_wp2_with fail
  go_loopw [14] (fun i wr => ∃ k : Nat, k ≤ ts.length ∧ i = .int .i64 k ∧ Hid (GI w EA TA en ec ts.length tc en key ok ts k wr)) (fun i _ => ts.length - (intOf i).toNat)
  case atStart => exact ⟨0, Nat.zero_le _, rfl, G0⟩
  case round =>
    clear G0 hmk
    obtain ⟨k, hk, rfl, GG⟩ := hrel
    by_cases hlt : k < ts.length
    · obtain ⟨b, off, rfl, hb, hc⟩ := HR.out.at_ (k := 4) (fun _ => rfl) (by omega) hlt
      have k0 := hc 0 _ rfl
      have k1 := hc 1 _ rfl
      have k2 := hc 2 _ rfl
      have k3 := hc 3 _ rfl
      rw [Nat.add_zero] at k0
      rw [← GG.out.l.cell (p := ⟨b, _, none⟩) hb] at k0 k1 k2 k3
      have hk0 : (0 : Int) ≤ (k : Int) := Int.natCast_nonneg _
      have hk1 : (k : Int) < (ts.length : Int) := by omega
      have HS := fun h => Lib.hid (gB_skip (key := key) (ok := ok) (N := en) hlt h)
      have HP := fun (x : Nat) h h2 h3 => Lib.hid (gB_put (key := key) (ok := ok) (N := en) (x := x) hlt h h2 h3)
      clear hc
      generalize ts[k]! = t at *
      obtain ⟨wo, rfl⟩ : ∃ wo, wo = wr := ⟨wr, rfl⟩
      have hal : Below wo.heap.size wo (wo.alloc (.cells #[.int .i64 t.kind, .int .i64 t.fr, .int .i64 t.to, .int .i64 t.time] 49)) := (Below.refl _ _).alloc (Nat.le_refl _) _
      have GA := Lib.hid (GG.out.call hal)
      have C := Lib.hid (HC.out _ t GA.out.l)
      have hn := heap_new wo (.cells #[.int .i64 t.kind, .int .i64 t.fr, .int .i64 t.to, .int .i64 t.time] 49)
      clear GG hal
      go_wp2_with fail
      refine C.out.mono ?_
      rintro e w3 ⟨rfl, hb3⟩
      have G3 := Lib.hid (GA.out.call hb3)
      have hz3 := hb3.size
      rw [World.size_alloc] at hz3
      have hn3 := (hb3.block wo.heap.size (by rw [World.size_alloc]; omega)).trans hn
      have y0 : w3.cell? ⟨wo.heap.size, 0, none⟩ = some (.int .i64 t.kind) := cell_blk hn3 rfl
      have y1 : w3.cell? ⟨wo.heap.size, 1, none⟩ = some (.int .i64 t.fr) := cell_blk hn3 rfl
      have y2 : w3.cell? ⟨wo.heap.size, 2, none⟩ = some (.int .i64 t.to) := cell_blk hn3 rfl
      have y3 : w3.cell? ⟨wo.heap.size, 3, none⟩ = some (.int .i64 t.time) := cell_blk hn3 rfl
      have f0 : w3.cell? ⟨w.heap.size, 0, none⟩ = some (.slice EA en ec) := cell_blk G3.out.f rfl
      have f1 : w3.cell? ⟨w.heap.size, 1, none⟩ = some (.slice (some ⟨b, off, none⟩) ts.length tc) := cell_blk G3.out.f rfl
      clear C hn hn3 hb3 k0 k1 k2 k3 GA hz3
      cases hok : ok t with
      | false =>
        have G4 := Lib.hid (G3.out.skip (HS (by rw [hok]; rfl)).out)
        clear HS HP G3 hok
        go_wp2_with fail
        go_roundw
        case rel => exact ⟨k + 1, hlt, by go_num, G4⟩
        case measure => simp [intOf]; omega
      | true =>
        have CB := Lib.hid (btw_any w3 EA (some ⟨b, off, none⟩) en ec ts.length tc t)
        cases hbt : btw en t with
        | false =>
          have HS' := HS (by rw [hbt, Bool.and_false])
          rw [hbt] at CB
          clear HS HP hok hbt
          go_wp2_with fail
          refine CB.out.mono ?_
          rintro e w5 ⟨rfl, hb5⟩
          have G5 := Lib.hid ((G3.out.call hb5).skip HS'.out)
          clear hb5 G3 CB HS' y0 y1 y2 y3 f0 f1
          go_wp2_with fail
          go_roundw
          case rel => exact ⟨k + 1, hlt, by go_num, G5⟩
          case measure => simp [intOf]; omega
        | true =>
          obtain ⟨h0, h1⟩ := HK.out t hbt
          obtain ⟨x, hx⟩ := Int.eq_ofNat_of_zero_le h0
          have HP' := HP x (by rw [hok, hbt]; rfl) hx (by omega)
          rw [hbt] at CB
          rw [hx]
          have hxl : x ≤ 9223372036854775807 := by omega
          clear HS HP hok hbt h0 h1 hx
          go_wp2_with fail
          refine CB.out.mono ?_
          rintro e w5 ⟨rfl, hb5⟩
          obtain ⟨w6, hput, hG6⟩ := (G3.out.call hb5).put (by unfold maxLen; omega) hxl HP'.out
          have G6 := Lib.hid hG6
          clear hb5 G3 CB HP' y0 y1 y2 y3 f0 f1 hG6
          go_wp2_with fail
          go_roundw
          case rel => exact ⟨k + 1, hlt, by go_num, G6⟩
          case measure => simp [intOf]; omega
    · obtain rfl : k = ts.length := by omega
      have hm := GG.out.m
      rw [List.take_length] at hm
      have HM := Lib.hid hm
      have HB := Lib.hid GG.out.l
      clear hm GG
      go_wp2_with fail
      go_ret
      exact ⟨rfl, HM.out, HB.out⟩
end Go.Proofs.Ytigicbnkfmbolaa.N7
