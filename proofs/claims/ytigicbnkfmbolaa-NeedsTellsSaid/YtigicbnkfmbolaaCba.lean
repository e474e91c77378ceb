/-
  Contracts of needs.Blocks, Calls, Called, Excluded, Delay. Ways as keys; the looks of needs.Net.
-/
import Derived.Test.YtigicbnkfmbolaaCaj
import Derived.Deep.RegionHeld3
import Derived.Deep.DrawnRows
import Derived.ChangeMaps5
namespace Go.Proofs.Ytigicbnkfmbolaa.N7
open Go.RowKit Go.Shelf Go.Proofs.Ytigicbnkfmbolaa.B Go.Proofs.Ytigicbnkfmbolaa.R6
/-- A flat graph lies there, a small one. -/
structure FI (W : World) (EA TA : Option Addr) (es : List Ev) (ts : List Ti) : Prop where
  e : Row W EA (es.flatMap evC)
  t : Row W TA (ts.flatMap tiC)
theorem FI.below {W W' : World} {EA TA : Option Addr} {es : List Ev} {ts : List Ti} (h : FI W EA TA es ts) (hb : Below W.heap.size W W') : FI W' EA TA es ts := ⟨h.e.below (Nat.le_refl _) hb, h.t.below (Nat.le_refl _) hb⟩
structure SmF (es : List Ev) (ts : List Ti) : Prop where
  e : es.length ≤ 800
  t : ts.length ≤ 10000
/-- A list of points, of the call's own. -/
def InP (w : World) (L : List Int) (e : Ending) (w' : World) : Prop := ∃ v, e = .returned v ∧ w'.ownsRow w.heap.size 3 1 v L.length (L.map (Value.int .i64)) ∧ Below w.heap.size w w'
def blkS (N : Nat) (ts : List Ti) (at_ : Int) : Nat → Bool := gB N (fun t => t.fr) (fun t => blkK t && t.to == at_) ts
def clS (N : Nat) (ts : List Ti) (at_ : Int) : Nat → Bool := gB N (fun t => t.to) (fun t => clK t && t.fr == at_) ts
def pendS (es : List Ev) (ts : List Ti) (i : Nat) : Bool := decide (0 ≤ (es[i]!).due) || gB es.length (fun t => t.to) clK ts i
def exclS (es : List Ev) (ts : List Ti) (i : Nat) : Bool := !(es[i]!).inn || gB es.length (fun t => t.to) (fun t => t.kind == 4) ts i
theorem btw_fr {N : Nat} (t : Ti) (h : btw N t = true) : 0 ≤ t.fr ∧ t.fr < (N : Int) := by unfold btw at h; rw [Bool.and_eq_true] at h; exact hasP_iff.1 h.1
theorem btw_to {N : Nat} (t : Ti) (h : btw N t = true) : 0 ≤ t.to ∧ t.to < (N : Int) := by unfold btw at h; rw [Bool.and_eq_true] at h; exact hasP_iff.1 h.2
theorem or_one (b c : Nat) (s : Nat → Bool) : orB [⟨b, c, s⟩] = s := by funext i; simp [orB]
theorem or_two (b c b' c' : Nat) (s s' : Nat → Bool) : orB [⟨b, c, s⟩, ⟨b', c', s'⟩] = fun i => s i || s' i := by funext i; simp [orB]
section
variable (w : World) (EA TA : Option Addr) (ec tc : Nat) (es : List Ev) (ts : List Ti)
set_option maxHeartbeats 2000000 in
theorem blocks_of (h : FI w EA TA es ts) (hs : SmF es ts) (at_ : Int) :
    Calls Try.prog 8 #[FV EA TA es.length ec ts.length tc, .int .i64 at_] w (InP w (inL es.length (blkS es.length ts at_))) := by
  obtain ⟨W1, hW1⟩ : ∃ W1, W1 = w.alloc (.cells #[.slice EA es.length ec, .slice TA ts.length tc] 25) := ⟨_, rfl⟩
  obtain ⟨W2, hW2⟩ : ∃ W2, W2 = W1.alloc (.cells #[.int .i64 at_] 3) := ⟨_, rfl⟩
  have s1 : W1.heap.size = w.heap.size + 1 := by rw [hW1, World.size_alloc]
  have s2 : W2.heap.size = w.heap.size + 1 + 1 := by rw [hW2, World.size_alloc, s1]
  have hb2 : Below w.heap.size w W2 := by rw [hW2, hW1]; exact ((Below.refl _ w).alloc (Nat.le_refl _) _).alloc (by rw [World.size_alloc]; omega) _
  have n1 : W2.heap[w.heap.size + 1]? = some (.cells #[.int .i64 at_] 3 (0, 0)) := by rw [hW2, ← s1]; exact heap_new _ _
  have C := gathered_int W2 EA TA es.length ec tc ts (fun t => t.fr) (fun t => blkK t && t.to == at_) 25 #[.pointer (some ⟨w.heap.size + 1, 0, none⟩)] (h.below hb2).t (by have := hs.t; omega) (by have := hs.e; omega) (enters_of Try.func25 (by kernel_rfl) rfl)
    (fun W t hW => blocks1_any W t at_ _ ((hW.block _ (by omega)).trans n1)) btw_fr
  have hl := hs.t
  have he := hs.e
  have HB2 := Lib.hid hb2
  rw [show gB es.length (fun t => t.fr) (fun t => blkK t && t.to == at_) ts = blkS es.length ts at_ from rfl, s2] at C
  generalize blkS es.length ts at_ = S at *
  have HC := Lib.hid C
  clear C n1 hb2 h
  subst hW2 hW1
  go_enter Try.func8, Try.ntmps8
  go_wp2_with fail
  refine HC.out.mono ?_
  rintro e w3 ⟨rfl, hm, hb3⟩
  have hz3 := hb3.size
  have hb3' : Below w.heap.size w w3 := HB2.out.trans (hb3.mono (by omega))
  have hal : Below w3.heap.size w3 (w3.alloc (.cells #[.map (some (w.heap.size + 1 + 1 + 1))] 52)) := (Below.refl _ _).alloc (Nat.le_refl _) _
  have HX := Lib.hid (hb3'.trans (hal.mono hb3'.size))
  have CR := rising_any (w3.alloc (.cells #[.map (some (w.heap.size + 1 + 1 + 1))] 52)) (some ⟨w3.heap.size, 0, none⟩) 1 es.length [⟨w.heap.size + 1 + 1 + 1, ts.length, S⟩]
    ⟨row_blk (heap_new _ _), fun x hx => by obtain rfl : x = _ := List.mem_singleton.1 hx; exact ⟨hm.below hal, by show ts.length ≤ 1000000; omega⟩⟩ (by simp) (by omega)
  rw [or_one] at CR
  have HR := Lib.hid CR
  clear CR hm hb3 hb3' hal HC HB2 hz3
  go_wp2_with fail
  refine HR.out.mono ?_
  rintro e w4 ⟨v, rfl, ho, hb4⟩
  have HO := Lib.hid (own_base ho HX.out.size)
  have HB4 := Lib.hid (HX.out.trans (hb4.mono HX.out.size))
  clear ho hb4 HR
  go_wp2_with fail
  go_ret
  exact ⟨v, rfl, HO.out, HB4.out⟩
set_option maxHeartbeats 2000000 in
theorem calls_of (h : FI w EA TA es ts) (hs : SmF es ts) (at_ : Int) :
    Calls Try.prog 10 #[FV EA TA es.length ec ts.length tc, .int .i64 at_] w (InP w (inL es.length (clS es.length ts at_))) := by
  obtain ⟨W1, hW1⟩ : ∃ W1, W1 = w.alloc (.cells #[.slice EA es.length ec, .slice TA ts.length tc] 25) := ⟨_, rfl⟩
  obtain ⟨W2, hW2⟩ : ∃ W2, W2 = W1.alloc (.cells #[.int .i64 at_] 3) := ⟨_, rfl⟩
  have s1 : W1.heap.size = w.heap.size + 1 := by rw [hW1, World.size_alloc]
  have s2 : W2.heap.size = w.heap.size + 1 + 1 := by rw [hW2, World.size_alloc, s1]
  have hb2 : Below w.heap.size w W2 := by rw [hW2, hW1]; exact ((Below.refl _ w).alloc (Nat.le_refl _) _).alloc (by rw [World.size_alloc]; omega) _
  have n1 : W2.heap[w.heap.size + 1]? = some (.cells #[.int .i64 at_] 3 (0, 0)) := by rw [hW2, ← s1]; exact heap_new _ _
  have C := gathered_int W2 EA TA es.length ec tc ts (fun t => t.to) (fun t => clK t && t.fr == at_) 28 #[.pointer (some ⟨w.heap.size + 1, 0, none⟩)] (h.below hb2).t (by have := hs.t; omega) (by have := hs.e; omega) (enters_of Try.func28 (by kernel_rfl) rfl)
    (fun W t hW => calls1_any W t at_ _ ((hW.block _ (by omega)).trans n1)) btw_to
  have hl := hs.t
  have he := hs.e
  have HB2 := Lib.hid hb2
  rw [show gB es.length (fun t => t.to) (fun t => clK t && t.fr == at_) ts = clS es.length ts at_ from rfl, s2] at C
  generalize clS es.length ts at_ = S at *
  have HC := Lib.hid C
  clear C n1 hb2 h
  subst hW2 hW1
  go_enter Try.func10, Try.ntmps10
  go_wp2_with fail
  refine HC.out.mono ?_
  rintro e w3 ⟨rfl, hm, hb3⟩
  have hz3 := hb3.size
  have hb3' : Below w.heap.size w w3 := HB2.out.trans (hb3.mono (by omega))
  have hal : Below w3.heap.size w3 (w3.alloc (.cells #[.map (some (w.heap.size + 1 + 1 + 1))] 52)) := (Below.refl _ _).alloc (Nat.le_refl _) _
  have HX := Lib.hid (hb3'.trans (hal.mono hb3'.size))
  have CR := rising_any (w3.alloc (.cells #[.map (some (w.heap.size + 1 + 1 + 1))] 52)) (some ⟨w3.heap.size, 0, none⟩) 1 es.length [⟨w.heap.size + 1 + 1 + 1, ts.length, S⟩]
    ⟨row_blk (heap_new _ _), fun x hx => by obtain rfl : x = _ := List.mem_singleton.1 hx; exact ⟨hm.below hal, by show ts.length ≤ 1000000; omega⟩⟩ (by simp) (by omega)
  rw [or_one] at CR
  have HR := Lib.hid CR
  clear CR hm hb3 hb3' hal HC HB2 hz3
  go_wp2_with fail
  refine HR.out.mono ?_
  rintro e w4 ⟨v, rfl, ho, hb4⟩
  have HO := Lib.hid (own_base ho HX.out.size)
  have HB4 := Lib.hid (HX.out.trans (hb4.mono HX.out.size))
  clear ho hb4 HR
  go_wp2_with fail
  go_ret
  exact ⟨v, rfl, HO.out, HB4.out⟩
set_option maxHeartbeats 2000000 in
theorem called_of (h : FI w EA TA es ts) (hs : SmF es ts) :
    Calls Try.prog 15 #[FV EA TA es.length ec ts.length tc] w (InP w (inL es.length (pendS es ts))) := by
  obtain ⟨W1, hW1⟩ : ∃ W1, W1 = w.alloc (.cells #[.slice EA es.length ec, .slice TA ts.length tc] 25) := ⟨_, rfl⟩
  have s1 : W1.heap.size = w.heap.size + 1 := by rw [hW1, World.size_alloc]
  have hb1 : Below w.heap.size w W1 := by rw [hW1]; exact (Below.refl _ w).alloc (Nat.le_refl _) _
  have n1 : W1.heap[w.heap.size]? = some (.cells #[.slice EA es.length ec, .slice TA ts.length tc] 25 (0, 0)) := by rw [hW1]; exact heap_new _ _
  have hl := hs.t
  have he := hs.e
  have C := events_any W1 EA TA ec ts.length tc es (fun v => decide (0 ≤ v.due)) 36 #[] (h.below hb1).e (by omega) (enters_of Try.func36 (by kernel_rfl) rfl) (fun W v _ => called1_any W v)
  have HG := Lib.hid (fun (W : World) (hW : FI W EA TA es ts) => gathered_int W EA TA es.length ec tc ts (fun t => t.to) clK 37 #[] hW.t (by omega) (by omega) (enters_of Try.func37 (by kernel_rfl) rfl)
    (fun W t _ => called2_any W t) btw_to)
  have HF := Lib.hid h
  have HB1 := Lib.hid hb1
  obtain ⟨S1, hS1⟩ : ∃ S1 : Nat → Bool, S1 = fun i : Nat => decide (0 ≤ (es[i]!).due) := ⟨_, rfl⟩
  have HE : Hid (pendS es ts = fun i => S1 i || gB es.length (fun t => t.to) clK ts i) := Lib.hid (by rw [hS1]; rfl)
  rw [s1, ← hS1] at C
  clear hS1
  generalize gB es.length (fun t => t.to) clK ts = S2 at *
  have HC := Lib.hid C
  have N1 := Lib.hid n1
  clear C n1 hb1 h
  subst hW1
  go_enter Try.func15, Try.ntmps15
  go_wp2_with fail
  refine HC.out.mono ?_
  rintro e w3 ⟨rfl, hm, hb3⟩
  have hb3' : Below w.heap.size w w3 := HB1.out.trans (hb3.mono (by omega))
  have c0 : w3.cell? ⟨w.heap.size, 0, none⟩ = some (.slice EA es.length ec) := cell_blk ((hb3.block _ (by omega)).trans N1.out) rfl
  have c1 : w3.cell? ⟨w.heap.size, 1, none⟩ = some (.slice TA ts.length tc) := cell_blk ((hb3.block _ (by omega)).trans N1.out) rfl
  have HC2 := Lib.hid (HG.out w3 (HF.out.below hb3'))
  have HM := Lib.hid hm
  have HB3 := Lib.hid hb3'
  clear hm hb3 hb3' HC HB1 N1 HG
  go_wp2_with fail
  refine HC2.out.mono ?_
  rintro e w4 ⟨rfl, hm4, hb4⟩
  have hb4' : Below w.heap.size w w4 := HB3.out.trans (hb4.mono HB3.out.size)
  have hal : Below w4.heap.size w4 (w4.alloc (.cells #[.map (some (w.heap.size + 1 + 1)), .map (some (w3.heap.size + 1))] 52)) := (Below.refl _ _).alloc (Nat.le_refl _) _
  have HX := Lib.hid (hb4'.trans (hal.mono hb4'.size))
  have CR := rising_any (w4.alloc (.cells #[.map (some (w.heap.size + 1 + 1)), .map (some (w3.heap.size + 1))] 52)) (some ⟨w4.heap.size, 0, none⟩) 2 es.length [⟨w.heap.size + 1 + 1, es.length, S1⟩, ⟨w3.heap.size + 1, ts.length, S2⟩]
    ⟨row_blk (heap_new _ _), fun x hx => by
      rcases List.mem_cons.1 hx with rfl | hx
      · exact ⟨(HM.out.below hb4).below hal, by show es.length ≤ 1000000; omega⟩
      · obtain rfl : x = _ := List.mem_singleton.1 hx; exact ⟨hm4.below hal, by show ts.length ≤ 1000000; omega⟩⟩ (by simp) (by omega)
  rw [or_two, ← HE.out] at CR
  have HR := Lib.hid CR
  clear CR hm4 hb4 hb4' hal HC2 HM HB3 c0 c1 HE
  go_wp2_with fail
  refine HR.out.mono ?_
  rintro e w5 ⟨v, rfl, ho, hb5⟩
  have HO := Lib.hid (own_base ho HX.out.size)
  have HB5 := Lib.hid (HX.out.trans (hb5.mono HX.out.size))
  clear ho hb5 HR
  go_wp2_with fail
  go_ret
  exact ⟨v, rfl, HO.out, HB5.out⟩
set_option maxHeartbeats 2000000 in
theorem excluded_of (h : FI w EA TA es ts) (hs : SmF es ts) :
    Calls Try.prog 19 #[FV EA TA es.length ec ts.length tc] w (InP w (inL es.length (exclS es ts))) := by
  obtain ⟨W1, hW1⟩ : ∃ W1, W1 = w.alloc (.cells #[.slice EA es.length ec, .slice TA ts.length tc] 25) := ⟨_, rfl⟩
  have s1 : W1.heap.size = w.heap.size + 1 := by rw [hW1, World.size_alloc]
  have hb1 : Below w.heap.size w W1 := by rw [hW1]; exact (Below.refl _ w).alloc (Nat.le_refl _) _
  have n1 : W1.heap[w.heap.size]? = some (.cells #[.slice EA es.length ec, .slice TA ts.length tc] 25 (0, 0)) := by rw [hW1]; exact heap_new _ _
  have hl := hs.t
  have he := hs.e
  have C := events_any W1 EA TA ec ts.length tc es (fun v => !v.inn) 40 #[] (h.below hb1).e (by omega) (enters_of Try.func40 (by kernel_rfl) rfl) (fun W v _ => excl1_any W v)
  have HG := Lib.hid (fun (W : World) (hW : FI W EA TA es ts) => gathered_int W EA TA es.length ec tc ts (fun t => t.to) (fun t => t.kind == 4) 41 #[] hW.t (by omega) (by omega) (enters_of Try.func41 (by kernel_rfl) rfl)
    (fun W t _ => excl2_any W t) btw_to)
  have HF := Lib.hid h
  have HB1 := Lib.hid hb1
  obtain ⟨S1, hS1⟩ : ∃ S1 : Nat → Bool, S1 = fun i : Nat => !(es[i]!).inn := ⟨_, rfl⟩
  have HE : Hid (exclS es ts = fun i => S1 i || gB es.length (fun t => t.to) (fun t => t.kind == 4) ts i) := Lib.hid (by rw [hS1]; rfl)
  rw [s1, ← hS1] at C
  clear hS1
  generalize gB es.length (fun t => t.to) (fun t => t.kind == 4) ts = S2 at *
  have HC := Lib.hid C
  have N1 := Lib.hid n1
  clear C n1 hb1 h
  subst hW1
  go_enter Try.func19, Try.ntmps19
  go_wp2_with fail
  refine HC.out.mono ?_
  rintro e w3 ⟨rfl, hm, hb3⟩
  have hb3' : Below w.heap.size w w3 := HB1.out.trans (hb3.mono (by omega))
  have c0 : w3.cell? ⟨w.heap.size, 0, none⟩ = some (.slice EA es.length ec) := cell_blk ((hb3.block _ (by omega)).trans N1.out) rfl
  have c1 : w3.cell? ⟨w.heap.size, 1, none⟩ = some (.slice TA ts.length tc) := cell_blk ((hb3.block _ (by omega)).trans N1.out) rfl
  have HC2 := Lib.hid (HG.out w3 (HF.out.below hb3'))
  have HM := Lib.hid hm
  have HB3 := Lib.hid hb3'
  clear hm hb3 hb3' HC HB1 N1 HG
  go_wp2_with fail
  refine HC2.out.mono ?_
  rintro e w4 ⟨rfl, hm4, hb4⟩
  have hb4' : Below w.heap.size w w4 := HB3.out.trans (hb4.mono HB3.out.size)
  have hal : Below w4.heap.size w4 (w4.alloc (.cells #[.map (some (w.heap.size + 1 + 1)), .map (some (w3.heap.size + 1))] 52)) := (Below.refl _ _).alloc (Nat.le_refl _) _
  have HX := Lib.hid (hb4'.trans (hal.mono hb4'.size))
  have CR := rising_any (w4.alloc (.cells #[.map (some (w.heap.size + 1 + 1)), .map (some (w3.heap.size + 1))] 52)) (some ⟨w4.heap.size, 0, none⟩) 2 es.length [⟨w.heap.size + 1 + 1, es.length, S1⟩, ⟨w3.heap.size + 1, ts.length, S2⟩]
    ⟨row_blk (heap_new _ _), fun x hx => by
      rcases List.mem_cons.1 hx with rfl | hx
      · exact ⟨(HM.out.below hb4).below hal, by show es.length ≤ 1000000; omega⟩
      · obtain rfl : x = _ := List.mem_singleton.1 hx; exact ⟨hm4.below hal, by show ts.length ≤ 1000000; omega⟩⟩ (by simp) (by omega)
  rw [or_two, ← HE.out] at CR
  have HR := Lib.hid CR
  clear CR hm4 hb4 hb4' hal HC2 HM HB3 c0 c1 HE
  go_wp2_with fail
  refine HR.out.mono ?_
  rintro e w5 ⟨v, rfl, ho, hb5⟩
  have HO := Lib.hid (own_base ho HX.out.size)
  have HB5 := Lib.hid (HX.out.trans (hb5.mono HX.out.size))
  clear ho hb5 HR
  go_wp2_with fail
  go_ret
  exact ⟨v, rfl, HO.out, HB5.out⟩
/-- The greatest delay of an event. -/
def delS (N : Nat) (ts : List Ti) : Int := ts.foldl (fun d t => if btw N t then max d t.time else d) 0
theorem delS_next {N : Nat} {ts : List Ti} {k : Nat} (hk : k < ts.length) : delS N (ts.take (k + 1)) = if btw N ts[k]! then max (delS N (ts.take k)) ts[k]!.time else delS N (ts.take k) := by
  unfold delS
  rw [take_next hk, List.foldl_append]; rfl
structure DI (w : World) (EA TA : Option Addr) (en ec tn tc B : Nat) (v : Value) (l : List Ti) (W : World) : Prop where
  o : W.ownsRow B 49 4 v l.length (l.flatMap tiC)
  f : W.heap[w.heap.size]? = some (.cells #[.slice EA en ec, .slice TA tn tc] 25 (0, 0))
  l : Below w.heap.size w W
theorem DI.call {w W W' : World} {EA TA : Option Addr} {en ec tn tc B : Nat} {v : Value} {l : List Ti} (h : DI w EA TA en ec tn tc B v l W) (hb : Below W.heap.size W W') : DI w EA TA en ec tn tc B v l W' :=
  ⟨own_below h.o hb, (hb.block _ (blk_lt h.f)).trans h.f, h.l.trans (hb.mono h.l.size)⟩
set_option maxRecDepth 100000 in
set_option maxHeartbeats 4000000 in
theorem delay_of (h : FI w EA TA es ts) (hs : SmF es ts) (at_ : Int) :
    Calls Try.prog 21 #[FV EA TA es.length ec ts.length tc, .int .i64 at_] w fun e w' => e = .returned (.int .i64 (delS es.length (ts.filter (F4.intoB 1 at_)))) ∧ Below w.heap.size w w' := by
  obtain ⟨W1, hW1⟩ : ∃ W1, W1 = w.alloc (.cells #[.slice EA es.length ec, .slice TA ts.length tc] 25) := ⟨_, rfl⟩
  have s1 : W1.heap.size = w.heap.size + 1 := by rw [hW1, World.size_alloc]
  have hb1 : Below w.heap.size w W1 := by rw [hW1]; exact (Below.refl _ w).alloc (Nat.le_refl _) _
  have n1 : W1.heap[w.heap.size]? = some (.cells #[.slice EA es.length ec, .slice TA ts.length tc] 25 (0, 0)) := by rw [hW1]; exact heap_new _ _
  have hl := hs.t
  have C := F4.into_any W1 EA TA es.length ec tc ts 1 at_ (h.below hb1).t (by omega)
  have hfl := List.length_filter_le (F4.intoB 1 at_) ts
  generalize ts.filter (F4.intoB 1 at_) = l at *
  rw [s1] at C
  have HC := Lib.hid C
  have N1 := Lib.hid n1
  have HB1 := Lib.hid hb1
  clear C n1 hb1 h
  subst hW1
  go_enter Try.func21, Try.ntmps21
  go_wp2_with fail
  refine HC.out.mono ?_
  rintro e w3 ⟨v, rfl, ho, hb3⟩
  obtain ⟨va, vc, rfl⟩ := own_slice ho
  have D0 : Hid (DI w EA TA es.length ec ts.length tc (w.heap.size + 1) (.slice va l.length vc) l w3) := Lib.hid ⟨ho, (hb3.block _ (by omega)).trans N1.out, HB1.out.trans (hb3.mono (by omega))⟩
  clear ho hb3 HC HB1 N1
  go_wp2_with fail
  go_loopw [5, 12] (fun dv i wr => ∃ k : Nat, k ≤ l.length ∧ i = .int .i64 k ∧ dv = .int .i64 (delS es.length (l.take k)) ∧ Hid (DI w EA TA es.length ec ts.length tc (w.heap.size + 1) (.slice va l.length vc) l wr)) (fun _ i _ => l.length - (intOf i).toNat)
  case atStart => exact ⟨0, Nat.zero_le _, rfl, rfl, D0⟩
  case round =>
    clear D0
    obtain ⟨k, hk, rfl, rfl, DD⟩ := hrel
    by_cases hlt : k < l.length
    · obtain ⟨b, off, hva, hb, hc⟩ := (Row.of_own DD.out.o).at_ (k := 4) (fun _ => rfl) (by omega) hlt
      subst hva
      have k0 := hc 0 _ rfl
      have k1 := hc 1 _ rfl
      have k2 := hc 2 _ rfl
      have k3 := hc 3 _ rfl
      rw [Nat.add_zero] at k0
      have hk0 : (0 : Int) ≤ (k : Int) := Int.natCast_nonneg _
      have hk1 : (k : Int) < (l.length : Int) := by omega
      have HNX := Lib.hid (delS_next (N := es.length) hlt)
      clear hc
      generalize l[k]! = t at *
      generalize delS es.length (l.take k) = d at *
      obtain ⟨wo, rfl⟩ : ∃ wo, wo = wr := ⟨wr, rfl⟩
      have hal : Below wo.heap.size wo (wo.alloc (.cells #[.int .i64 t.kind, .int .i64 t.fr, .int .i64 t.to, .int .i64 t.time] 49)) := (Below.refl _ _).alloc (Nat.le_refl _) _
      have GA := Lib.hid (DD.out.call hal)
      have hn := heap_new wo (.cells #[.int .i64 t.kind, .int .i64 t.fr, .int .i64 t.to, .int .i64 t.time] 49)
      have CB := Lib.hid (btw_any (wo.alloc (.cells #[.int .i64 t.kind, .int .i64 t.fr, .int .i64 t.to, .int .i64 t.time] 49)) EA TA es.length ec ts.length tc t)
      have f0 : (wo.alloc (.cells #[.int .i64 t.kind, .int .i64 t.fr, .int .i64 t.to, .int .i64 t.time] 49)).cell? ⟨w.heap.size, 0, none⟩ = some (.slice EA es.length ec) := cell_blk GA.out.f rfl
      have f1 : (wo.alloc (.cells #[.int .i64 t.kind, .int .i64 t.fr, .int .i64 t.to, .int .i64 t.time] 49)).cell? ⟨w.heap.size, 1, none⟩ = some (.slice TA ts.length tc) := cell_blk GA.out.f rfl
      have hfl2 := blk_lt DD.out.f
      have f2 : wo.cell? ⟨w.heap.size, 0, none⟩ = some (.slice EA es.length ec) := cell_blk DD.out.f rfl
      have f3 : wo.cell? ⟨w.heap.size, 1, none⟩ = some (.slice TA ts.length tc) := cell_blk DD.out.f rfl
      clear DD hal
      cases hbt : btw es.length t with
      | false =>
        rw [hbt] at CB
        rw [hbt, if_neg (by decide)] at HNX
        clear hbt
        go_wp2_with fail
        refine CB.out.mono ?_
        rintro e w5 ⟨rfl, hb5⟩
        have G5 := Lib.hid (GA.out.call hb5)
        clear hb5 CB k0 k1 k2 k3 GA f0 f1 f2 f3 hn
        go_wp2_with fail
        go_roundw
        case rel => exact ⟨k + 1, hlt, by go_num, by rw [HNX.out], G5⟩
        case measure => simp [intOf]; omega
      | true =>
        rw [hbt] at CB
        rw [hbt, if_pos rfl] at HNX
        clear hbt
        go_wp2_with fail
        refine CB.out.mono ?_
        rintro e w5 ⟨rfl, hb5⟩
        have G5 := Lib.hid (GA.out.call hb5)
        have y3 : w5.cell? ⟨wo.heap.size, 3, none⟩ = some (.int .i64 t.time) := cell_blk ((hb5.block _ (by rw [World.size_alloc]; omega)).trans hn) rfl
        clear hb5 CB k0 k1 k2 k3 GA f0 f1 f2 f3 hn
        go_wp2_with fail
        go_roundw
        case rel => exact ⟨k + 1, hlt, by go_num, by rw [HNX.out], G5⟩
        case measure => simp [intOf]; omega
    · obtain rfl : k = l.length := by omega
      have HB := Lib.hid DD.out.l
      rw [List.take_length]
      clear DD
      go_wp2_with fail
      go_ret
      exact ⟨rfl, HB.out⟩
end
end Go.Proofs.Ytigicbnkfmbolaa.N7

namespace Go.Proofs.Ytigicbnkfmbolaa.N7
open Go.RowKit Go.Shelf Go.Proofs.Ytigicbnkfmbolaa.B Go.Proofs.Ytigicbnkfmbolaa.R6
attribute [local go_sem ↓] Go.wp_at_zero Go.wp_at_succ
theorem bcell {W w1 : World} (hb : Below W.heap.size W w1) : (∀ b o, b < W.heap.size → w1.cell? ⟨b, o, none⟩ = W.cell? ⟨b, o, none⟩) ∧ (∀ b o, b < W.heap.size → w1.frozen? ⟨b, o, none⟩ = W.frozen? ⟨b, o, none⟩) :=
  ⟨fun b o h => hb.cell (p := ⟨b, o, none⟩) h, fun b o h => hb.frozen (p := ⟨b, o, none⟩) h⟩
set_option maxRecDepth 100000 in
set_option maxHeartbeats 2000000 in
theorem net1_any (w : World) (t : Ti) :
    Calls Try.prog 31 (#[tiW t] ++ #[]) w fun e w' => e = .returned (.tuple #[.agg #[.int .i64 t.to, .int .i64 t.fr], .bool (blkK t)]) ∧ Below w.heap.size w w' := by
  show Calls Try.prog 31 #[tiW t] w _
  generalize hk : blkK t = d
  have HC := Lib.hid (fun W => blocks_any W t)
  rw [hk] at HC
  clear hk
  go_enter Try.func31, Try.ntmps31
  go_wp2_with fail
  have hz2 : w.heap.size < ((w.alloc (.cells #[.int .i64 t.kind, .int .i64 t.fr, .int .i64 t.to, .int .i64 t.time] 49)).alloc (.cells #[.int .i64 0, .int .i64 0] 60)).heap.size := by rw [World.size_alloc, World.size_alloc]; omega
  go_region_with ((refine (HC.out _).mono ?_; rintro e w5 ⟨rfl, hb5⟩; obtain ⟨hc5, hf5⟩ := bcell hb5))
  all_goals have hz5 : w.heap.size + 1 < w5.heap.size := by have := hb5.size; simp at this; omega
  all_goals go_wp2_with fail
  all_goals
    refine bodyPost_ret (v := .tuple #[.agg #[.int .i64 t.to, .int .i64 t.fr], .bool d]) (by simp [results, Try.results31, go_sem, hc5]) rfl ⟨rfl, ?_⟩
  all_goals
    have hB2 : Below w.heap.size w ((w.alloc (.cells #[.int .i64 t.kind, .int .i64 t.fr, .int .i64 t.to, .int .i64 t.time] 49)).alloc (.cells #[.int .i64 0, .int .i64 0] 60)) := ((Below.refl _ _).alloc (Nat.le_refl _) _).alloc (by rw [World.size_alloc]; omega) _
    first
      | exact ((below_draws hB2 1).trans (hb5.mono (by simp; omega)))
      | exact ((((below_draws hB2 1).trans (hb5.mono (by simp; omega))).setCell (by simp) _).setCell (by simp) _)
      | exact ((((below_draws hB2 1).setCell (by simp) _).setCell (by simp) _).trans (hb5.mono (by simp; omega)))
set_option maxRecDepth 100000 in
set_option maxHeartbeats 2000000 in
theorem net2_any (w : World) (t : Ti) :
    Calls Try.prog 32 (#[tiW t] ++ #[]) w fun e w' => e = .returned (.tuple #[.agg #[.int .i64 t.fr, .int .i64 t.to], .bool (clK t)]) ∧ Below w.heap.size w w' := by
  show Calls Try.prog 32 #[tiW t] w _
  generalize hk : clK t = d
  have HC := Lib.hid (fun W => calls_any W t)
  rw [hk] at HC
  clear hk
  go_enter Try.func32, Try.ntmps32
  go_wp2_with fail
  have hz2 : w.heap.size < ((w.alloc (.cells #[.int .i64 t.kind, .int .i64 t.fr, .int .i64 t.to, .int .i64 t.time] 49)).alloc (.cells #[.int .i64 0, .int .i64 0] 60)).heap.size := by rw [World.size_alloc, World.size_alloc]; omega
  go_region_with ((refine (HC.out _).mono ?_; rintro e w5 ⟨rfl, hb5⟩; obtain ⟨hc5, hf5⟩ := bcell hb5))
  all_goals have hz5 : w.heap.size + 1 < w5.heap.size := by have := hb5.size; simp at this; omega
  all_goals go_wp2_with fail
  all_goals
    refine bodyPost_ret (v := .tuple #[.agg #[.int .i64 t.fr, .int .i64 t.to], .bool d]) (by simp [results, Try.results32, go_sem, hc5]) rfl ⟨rfl, ?_⟩
  all_goals
    have hB2 : Below w.heap.size w ((w.alloc (.cells #[.int .i64 t.kind, .int .i64 t.fr, .int .i64 t.to, .int .i64 t.time] 49)).alloc (.cells #[.int .i64 0, .int .i64 0] 60)) := ((Below.refl _ _).alloc (Nat.le_refl _) _).alloc (by rw [World.size_alloc]; omega) _
    first
      | exact ((below_draws hB2 1).trans (hb5.mono (by simp; omega)))
      | exact ((((below_draws hB2 1).trans (hb5.mono (by simp; omega))).setCell (by simp) _).setCell (by simp) _)
      | exact ((((below_draws hB2 1).setCell (by simp) _).setCell (by simp) _).trans (hb5.mono (by simp; omega)))
noncomputable def wlit (a b : Int) : Lit := (DataW.agg [.lit (.int .i64 a), .lit (.int .i64 b)] : DataW Unit).asKey
theorem rowW : (60 : TypeId) < Try.prog.types.size := of_decide_eq_true (by kernel_rfl)
theorem deepW3 : Try.prog.keyTypeAt 3 60 = true := by kernel_rfl
theorem deepW : Try.prog.keyTypeAt (Try.prog.types.size + 1) 60 = true := by kernel_rfl
theorem cellsW : Try.prog.cellsOf 60 = 2 := by kernel_rfl
theorem formW (a b : Value) : (Value.agg #[a, b]).formed Try.prog 60 = true := by simp [Value.formed, Try.underlying60, cellsW]
theorem lawS_of {P : Program} (hl : laidOutB P = true) {k : TypeId} (hrow : k < P.types.size) (hk : P.keyTypeAt 3 k = true) {fs : Array Field} (h : P.underlying k = some (.struct fs)) : WideMaps.KeyLaw P k :=
  deep_law_laid hl (m := 3) (by omega) hrow hk (by rw [h])
theorem keyS_of {P : Program} {w : World} {k : TypeId} (hk : P.keyTypeAt (P.types.size + 1) k = true) {fs : Array Field} (h : P.underlying k = some (.struct fs)) {v : Value} (hf : v.formed P k = true) {d : DataW Unit} {ps : List MemPlace}
    (hd : DataW.Trod (fun _ => ()) P w 0 (fun _ => false) true k v d ps) : keyOf P k v = some d.asKey := (keyOf_asKey hk (by rw [h]) hf hd).1
theorem lawW : Maps.Keyed Try.prog 60 := Maps.Keyed.of_law (lawS_of progLaid rowW deepW3 Try.underlying60)
theorem keyW {a b : Int} (ha : (Lit.int .i64 a).wf = true) (hb : (Lit.int .i64 b).wf = true) : keyOf Try.prog 60 (.agg #[.int .i64 a, .int .i64 b]) = some (wlit a b) := by
  have hi : ∀ n : Int, (Lit.int .i64 n).wf = true → ∃ m, DataW.trod (fun _ => ()) Try.prog (default : World) 0 (fun _ => false) true m 3 [.int .i64 n] = some (.lit (.int .i64 n), []) := fun n hn => by
    obtain ⟨m, hm⟩ := Go.ChangeShapes.shut_int (enc := fun _ => ()) (P := Try.prog) (w := default) (base := 0) (spare := fun _ => false) (held := true) Try.underlying3 hn
    exact ⟨m, hm⟩
  have := Joins.shut_agg2 (enc := fun _ => ()) (P := Try.prog) (w := default) (base := 0) (spare := fun _ => false) (held := true) Try.underlying60 (by kernel_rfl) cellsW (hi _ ha) (hi _ hb)
  exact keyS_of deepW Try.underlying60 (formW _ _) this
theorem wlit_inj {a b c d : Int} (ha : (Lit.int .i64 a).wf = true) (hb : (Lit.int .i64 b).wf = true) (hc : (Lit.int .i64 c).wf = true) (hd : (Lit.int .i64 d).wf = true) (h : wlit a b = wlit c d) : a = c ∧ b = d := by
  have e1 := keyW ha hb
  rw [h] at e1
  have e2 := lawW.inj e1 (keyW hc hd)
  simp only [Value.agg.injEq, Array.mk.injEq, List.cons.injEq, Value.int.injEq, true_and, and_true] at e2
  exact e2
theorem wfN {n : Nat} (h : n ≤ 9223372036854775807) : (Lit.int .i64 (n : Int)).wf = true := WalkArith.wf_i64 (by omega)
/-- The ways of a set. -/
def WL (N : Nat) (S : Nat → Nat → Bool) (l : Lit) : Prop := ∃ a b : Nat, a < N ∧ b < N ∧ S a b = true ∧ l = wlit (a : Int) (b : Int)
/-- What a look finds in some ties. -/
def gW (N : Nat) (ka kb : Ti → Int) (ok : Ti → Bool) (ts : List Ti) (a b : Nat) : Bool := ts.any fun t => ok t && btw N t && (ka t == (a : Int) && kb t == (b : Int))
theorem gW_next {N : Nat} {ka kb : Ti → Int} {ok : Ti → Bool} {ts : List Ti} {k : Nat} (hk : k < ts.length) (a b : Nat) : gW N ka kb ok (ts.take (k + 1)) a b = (gW N ka kb ok (ts.take k) a b || (ok ts[k]! && btw N ts[k]! && (ka ts[k]! == (a : Int) && kb ts[k]! == (b : Int)))) := by
  unfold gW
  rw [take_next hk, List.any_append]; simp
theorem gW_skip {N : Nat} {ka kb : Ti → Int} {ok : Ti → Bool} {ts : List Ti} {k : Nat} (hk : k < ts.length) (h : (ok ts[k]! && btw N ts[k]!) = false) (l : Lit) : WL N (gW N ka kb ok (ts.take k)) l ↔ WL N (gW N ka kb ok (ts.take (k + 1))) l := by
  unfold WL
  simp only [gW_next hk, h, Bool.false_and, Bool.or_false]
theorem gW_put {N : Nat} {ka kb : Ti → Int} {ok : Ti → Bool} {ts : List Ti} {k x y : Nat} (hk : k < ts.length) (h : (ok ts[k]! && btw N ts[k]!) = true) (hx : ka ts[k]! = (x : Int)) (hy : kb ts[k]! = (y : Int)) (hxN : x < N) (hyN : y < N) (l : Lit) :
    (WL N (gW N ka kb ok (ts.take k)) l ∨ l = wlit x y) ↔ WL N (gW N ka kb ok (ts.take (k + 1))) l := by
  unfold WL
  simp only [gW_next hk, h, Bool.true_and, hx, hy, Bool.or_eq_true, Bool.and_eq_true, beq_iff_eq]
  constructor
  · rintro (⟨a, b, h1, h1', h2, h3⟩ | rfl)
    · exact ⟨a, b, h1, h1', .inl h2, h3⟩
    · exact ⟨x, y, hxN, hyN, .inr ⟨rfl, rfl⟩, rfl⟩
  · rintro ⟨a, b, h1, h1', h2 | ⟨h2, h2'⟩, h3⟩
    · exact .inl ⟨a, b, h1, h1', h2, h3⟩
    · exact .inr (by rw [h3, show x = a by omega, show y = b by omega])
end Go.Proofs.Ytigicbnkfmbolaa.N7
