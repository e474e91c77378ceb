/-
  The document's half of layer 7: plain facts; contracts of layer 5's Own and of the document's tied. Contracts of the document's Blocks and Calls.
-/
import Derived.Test.YtigicbnkfmbolaaCbe
import Derived.Test.YtigicbnkfmbolaaCbf
import Derived.Deep.RegionLaw
import Derived.Deep.DeepCutAuto
namespace Go.Proofs.Ytigicbnkfmbolaa.N7.T
open Go.RowKit Go.Shelf Go.Proofs.Ytigicbnkfmbolaa.B Go.Proofs.Ytigicbnkfmbolaa.R6 Go.Proofs.Ytigicbnkfmbolaa.R6.T Go.Proofs.Ytigicbnkfmbolaa.N7
def tdT (x a b : Int) (t : Ti) : Bool := t.kind == x && t.fr == a && t.to == b
def tdB (ts : List Ti) (x a b : Int) : Bool := ts.any (tdT x a b)
theorem tdT_iff {x a b : Int} {t : Ti} : tdT x a b t = true ↔ t.kind = x ∧ t.fr = a ∧ t.to = b := by
  unfold tdT; simp only [Bool.and_eq_true, beq_iff_eq, and_assoc]
theorem tdB_iff {ts : List Ti} {x a b : Int} : tdB ts x a b = true ↔ ∃ t ∈ ts, t.kind = x ∧ t.fr = a ∧ t.to = b := by
  unfold tdB; simp only [List.any_eq_true, tdT_iff]
theorem gB_iff {N : Nat} {key : Ti → Int} {ok : Ti → Bool} {ts : List Ti} {i : Nat} : gB N key ok ts i = true ↔ ∃ t ∈ ts, ok t = true ∧ btw N t = true ∧ key t = (i : Int) := by
  unfold gB; simp only [List.any_eq_true, Bool.and_eq_true, beq_iff_eq, and_assoc]
theorem gW_iff {N : Nat} {ka kb : Ti → Int} {ok : Ti → Bool} {ts : List Ti} {a b : Nat} : gW N ka kb ok ts a b = true ↔ ∃ t ∈ ts, ok t = true ∧ btw N t = true ∧ ka t = (a : Int) ∧ kb t = (b : Int) := by
  unfold gW; simp only [List.any_eq_true, Bool.and_eq_true, beq_iff_eq, and_assoc]
theorem btw_iff {N : Nat} {t : Ti} : btw N t = true ↔ (0 ≤ t.fr ∧ t.fr < (N : Int)) ∧ 0 ≤ t.to ∧ t.to < (N : Int) := by
  unfold btw; rw [Bool.and_eq_true, hasP_iff, hasP_iff]
theorem blkK_iff {t : Ti} : blkK t = true ↔ t.kind = 1 ∨ t.kind = 5 := by unfold blkK; simp only [Bool.or_eq_true, beq_iff_eq]
theorem clK_iff {t : Ti} : clK t = true ↔ t.kind = 2 := by unfold clK; simp only [beq_iff_eq]
theorem blk_doc {N i : Nat} {ts : List Ti} {at_ : Int} (hi : i < N) (h : hasP N at_ = true) : blkS N ts at_ i = (tdB ts 1 (i : Int) at_ || tdB ts 5 (i : Int) at_) := by
  have h' := hasP_iff.1 h
  rw [Bool.eq_iff_iff, Bool.or_eq_true, tdB_iff, tdB_iff]
  unfold blkS
  rw [gB_iff]
  simp only [Bool.and_eq_true, beq_iff_eq, blkK_iff, btw_iff]
  constructor
  · rintro ⟨t, ht, ⟨hk, h2⟩, _, h4⟩
    rcases hk with hk | hk
    · exact .inl ⟨t, ht, hk, h4, h2⟩
    · exact .inr ⟨t, ht, hk, h4, h2⟩
  · rintro (⟨t, ht, hk, h4, h2⟩ | ⟨t, ht, hk, h4, h2⟩)
    · exact ⟨t, ht, ⟨.inl hk, h2⟩, by omega, h4⟩
    · exact ⟨t, ht, ⟨.inr hk, h2⟩, by omega, h4⟩
theorem blk_out {N i : Nat} {ts : List Ti} {at_ : Int} (h : hasP N at_ = false) : blkS N ts at_ i = false := by
  rw [Bool.eq_false_iff]
  intro hb
  unfold blkS at hb
  rw [gB_iff] at hb
  obtain ⟨t, ht, h1, h2, _⟩ := hb
  rw [Bool.and_eq_true, beq_iff_eq] at h1
  rw [btw_iff] at h2
  rw [← h1.2, hasP_iff.2 h2.2] at h; cases h
theorem cl_doc {N i : Nat} {ts : List Ti} {at_ : Int} (hi : i < N) (h : hasP N at_ = true) : clS N ts at_ i = tdB ts 2 at_ (i : Int) := by
  have h' := hasP_iff.1 h
  rw [Bool.eq_iff_iff, tdB_iff]
  unfold clS
  rw [gB_iff]
  simp only [Bool.and_eq_true, beq_iff_eq, clK_iff, btw_iff]
  constructor
  · rintro ⟨t, ht, ⟨hk, h2⟩, _, h4⟩; exact ⟨t, ht, hk, h2, h4⟩
  · rintro ⟨t, ht, hk, h2, h4⟩; exact ⟨t, ht, ⟨hk, h2⟩, by omega, h4⟩
theorem cl_out {N i : Nat} {ts : List Ti} {at_ : Int} (h : hasP N at_ = false) : clS N ts at_ i = false := by
  rw [Bool.eq_false_iff]
  intro hb
  unfold clS at hb
  rw [gB_iff] at hb
  obtain ⟨t, ht, h1, h2, _⟩ := hb
  rw [Bool.and_eq_true, beq_iff_eq] at h1
  rw [btw_iff] at h2
  rw [← h1.2, hasP_iff.2 h2.1] at h; cases h
theorem need_doc {N a i : Nat} {ts : List Ti} (ha : a < N) (hi : i < N) : needS N ts a i = ((tdB ts 1 (i : Int) (a : Int) || tdB ts 5 (i : Int) (a : Int)) || tdB ts 2 (a : Int) (i : Int)) := by
  rw [Bool.eq_iff_iff, Bool.or_eq_true, Bool.or_eq_true, tdB_iff, tdB_iff, tdB_iff]
  unfold needS
  rw [Bool.or_eq_true, gW_iff, gW_iff]
  simp only [blkK_iff, clK_iff, btw_iff]
  constructor
  · rintro (⟨t, ht, hk | hk, _, h1, h2⟩ | ⟨t, ht, hk, _, h1, h2⟩)
    · exact .inl (.inl ⟨t, ht, hk, h2, h1⟩)
    · exact .inl (.inr ⟨t, ht, hk, h2, h1⟩)
    · exact .inr ⟨t, ht, hk, h1, h2⟩
  · rintro ((⟨t, ht, hk, h2, h1⟩ | ⟨t, ht, hk, h2, h1⟩) | ⟨t, ht, hk, h1, h2⟩)
    · exact .inl ⟨t, ht, .inl hk, by omega, h1, h2⟩
    · exact .inl ⟨t, ht, .inr hk, by omega, h1, h2⟩
    · exact .inr ⟨t, ht, hk, by omega, h1, h2⟩
/-- One of the first k leads to an event by a tie of a kind. -/
def anyB (ts : List Ti) (x : Int) (i k : Nat) : Bool := (List.range k).any fun j => tdB ts x (j : Int) (i : Int)
theorem anyB_next (ts : List Ti) (x : Int) (i k : Nat) : anyB ts x i (k + 1) = (anyB ts x i k || tdB ts x (k : Int) (i : Int)) := by
  unfold anyB; rw [List.range_succ, List.any_append]; simp
theorem anyB_all {N i : Nat} {ts : List Ti} (x : Int) (hi : i < N) : anyB ts x i N = gB N (fun t => t.to) (fun t => t.kind == x) ts i := by
  rw [Bool.eq_iff_iff, gB_iff]
  unfold anyB
  simp only [List.any_eq_true, List.mem_range, tdB_iff, beq_iff_eq, btw_iff]
  constructor
  · rintro ⟨j, hj, t, ht, hk, h1, h2⟩; exact ⟨t, ht, hk, by omega, h2⟩
  · rintro ⟨t, ht, hk, h1, h2⟩; exact ⟨t.fr.toNat, by omega, t, ht, hk, by omega, h2⟩
theorem pend_doc {es : List Ev} {ts : List Ti} {i : Nat} (hi : i < es.length) : pendS es ts i = (decide (0 ≤ (es[i]!).due) || anyB ts 2 i es.length) := by
  rw [anyB_all 2 hi]; rfl
theorem excl_doc {es : List Ev} {ts : List Ti} {i : Nat} (hi : i < es.length) : exclS es ts i = (!(es[i]!).inn || anyB ts 4 i es.length) := by
  rw [anyB_all 4 hi]; rfl
theorem inL_next (k : Nat) (S : Nat → Bool) : inL (k + 1) S = inL k S ++ (if S k then [(k : Int)] else []) := by
  unfold inL
  rw [List.range_succ, List.filter_append, List.map_append]
  congr 1
  cases h : S k with
  | true => simp [h]
  | false => simp [h]
theorem inL_none {N : Nat} {S : Nat → Bool} (h : ∀ i, i < N → S i = false) : inL N S = [] := by
  unfold inL
  rw [List.filter_eq_nil_iff.2 (fun i hi => by rw [h i (List.mem_range.1 hi)]; decide)]; rfl
/-- The greatest delay, as the document reckons it. -/
def dlT (N : Nat) (at_ : Int) (d : Int) (t : Ti) : Bool := t.kind == 1 && t.to == at_ && decide (at_ ≥ 0) && decide (at_ < (N : Int)) && decide (t.fr ≥ 0) && decide (t.fr < (N : Int)) && decide (t.time > d)
def dlB (N : Nat) (at_ : Int) (ts : List Ti) : Int := ts.foldl (fun d t => if dlT N at_ d t then t.time else d) 0
theorem dlB_next {N : Nat} {at_ : Int} {ts : List Ti} {k : Nat} (hk : k < ts.length) : dlB N at_ (ts.take (k + 1)) = if dlT N at_ (dlB N at_ (ts.take k)) ts[k]! then ts[k]!.time else dlB N at_ (ts.take k) := by
  unfold dlB; rw [take_next hk, List.foldl_append]; rfl
theorem dl_doc (N : Nat) (at_ : Int) (ts : List Ti) : delS N (ts.filter (F4.intoB 1 at_)) = dlB N at_ ts := by
  unfold delS dlB
  rw [List.foldl_filter]
  have : ∀ (l : List Ti) (d : Int), l.foldl (fun x y => if F4.intoB 1 at_ y = true then (if btw N y = true then max x y.time else x) else x) d = l.foldl (fun d t => if dlT N at_ d t = true then t.time else d) d := by
    intro l
    induction l with
    | nil => intro d; rfl
    | cons t l ih =>
      intro d
      rw [List.foldl_cons, List.foldl_cons, ih]
      congr 1
      unfold F4.intoB
      by_cases h1 : t.kind = 1 ∧ t.to = at_
      · obtain ⟨h1, h2⟩ := h1
        have e1 : (t.kind == 1 && t.to == at_) = true := by rw [Bool.and_eq_true, beq_iff_eq, beq_iff_eq]; exact ⟨h1, h2⟩
        rw [if_pos e1]
        cases hb : btw N t with
        | true =>
          have hb' := btw_iff.1 hb
          rw [if_pos rfl]
          by_cases h3 : t.time > d
          · rw [if_pos (by unfold dlT; rw [e1]; simp only [Bool.true_and, Bool.and_eq_true, decide_eq_true_eq]; omega)]; omega
          · rw [if_neg (by unfold dlT; rw [e1]; simp only [Bool.true_and, Bool.and_eq_true, decide_eq_true_eq]; omega)]; omega
        | false =>
          rw [if_neg (by decide)]
          rw [if_neg (fun h => ?_)]
          unfold dlT at h
          rw [e1] at h
          simp only [Bool.true_and, Bool.and_eq_true, decide_eq_true_eq] at h
          rw [btw_iff.2 (by omega)] at hb; cases hb
      · have e1 : (t.kind == 1 && t.to == at_) = false := by
          rw [Bool.eq_false_iff]; intro h; rw [Bool.and_eq_true, beq_iff_eq, beq_iff_eq] at h; exact h1 h
        rw [e1, if_neg (by decide), if_neg (by unfold dlT; rw [e1]; simp)]
  exact this ts 0
/-- A box that a call has made first. -/
structure BT1 (T : TypeId) (w : World) (fl : Array Value) (W : World) : Prop where
  b : Below w.heap.size w W
  f : W.heap[w.heap.size]? = some (.cells fl T (0, 0))
section
variable {T : TypeId} {w W W' : World} {fl : Array Value}
theorem BT1.lt (h : BT1 T w fl W) : w.heap.size < W.heap.size := blk_lt h.f
theorem BT1.call (h : BT1 T w fl W) (hb : Below W.heap.size W W') : BT1 T w fl W' := ⟨h.b.trans (hb.mono (Nat.le_of_lt h.lt)), (hb.block _ h.lt).trans h.f⟩
theorem BT1.alloc (h : BT1 T w fl W) (o : Obj) : BT1 T w fl (W.alloc o) := h.call ((Below.refl _ _).alloc (Nat.le_refl _) _)
theorem BT1.start (T : TypeId) (w : World) (fl : Array Value) : BT1 T w fl (w.alloc (.cells fl T)) := ⟨(Below.refl _ _).alloc (Nat.le_refl _) _, heap_new _ _⟩
theorem BT1.cells {EA TA : Option Addr} {en ec tn tc : Nat} (h : BT1 T w #[.slice EA en ec, .slice TA tn tc] W) : W.cell? ⟨w.heap.size, 0, none⟩ = some (.slice EA en ec) ∧ W.cell? ⟨w.heap.size, 1, none⟩ = some (.slice TA tn tc) := ⟨cell_blk h.f rfl, cell_blk h.f rfl⟩
theorem BT1.grown {row : Option Nat} (h : BT1 T w fl W) (hg : W.grownBy W' row) (hr : ∀ q, row = some q → w.heap.size ≤ q) (hne : row ≠ some w.heap.size) : BT1 T w fl W' :=
  ⟨h.b.grown hg (Nat.le_of_lt h.lt) hr, (hg.block _ h.lt (fun e => hne e.symm)).trans h.f⟩
end
/-- The box of the graph, and a list of ints of the call's own. -/
structure LX (w : World) (fl : Array Value) (u : Value) (l : List Int) (W : World) : Prop where
  b : BT1 30 w fl W
  o : W.ownsRow w.heap.size 3 1 u l.length (l.map (Value.int .i64))
section
variable {w W W1 : World} {fl : Array Value} {u : Value} {l : List Int}
theorem LX.call (h : LX w fl u l W) (hb : Below W.heap.size W W1) : LX w fl u l W1 := ⟨h.b.call hb, own_below h.o hb⟩
theorem LX.push {x : Int} {u' : Value} (h : LX w fl u l W) (ho : W1.ownsRow w.heap.size 3 1 u' (l.length + 1) (l.map (Value.int .i64) ++ [.int .i64 x])) (hg : (W.alloc (.cells #[.int .i64 x] 3)).grownBy W1 u.ownBlock) : LX w fl u' (l ++ [x]) W1 := by
  have hb : Below W.heap.size W (W.alloc (.cells #[.int .i64 x] 3)) := (Below.refl _ _).alloc (Nat.le_refl _) _
  exact ⟨(h.b.call hb).grown hg (fun q hq => (own_block h.o hq).1) (own_far h.o h.b.f (by decide)), by rw [List.length_append, List.map_append]; exact ho⟩
theorem LX.inP (h : LX w fl u l W) {N : Nat} {S : Nat → Bool} (e : l = inL N S) : InP w (inL N S) (.returned u) W := by
  subst e; exact ⟨u, rfl, h.o, h.b.b⟩
end
theorem LX.start (w : World) (fl : Array Value) : LX w fl (.slice (some ⟨w.heap.size + 1, 0, none⟩) 0 0) [] ((w.alloc (.cells fl 30)).alloc (.cells #[] 3)) := by
  refine ⟨(BT1.start _ w fl).alloc _, ?_⟩
  have := own_emp (T := 3) (z := 1) (heap_new (w.alloc (.cells fl 30)) (.cells #[] 3)) (B := w.heap.size) (by rw [World.size_alloc]; omega)
  rw [World.size_alloc] at this
  exact this
theorem info_rti : (Try.prog.info? 50).map (fun i => (i.zero, i.size, i.bytes)) = some (some (.agg #[.int .i64 0, .int .i64 0, .int .i64 0, .int .i64 0]), 4, 32) := by kernel_rfl
set_option maxRecDepth 100000 in
set_option maxHeartbeats 2000000 in
theorem tied_doc (w : World) (EA TA : Option Addr) (en ec tc : Nat) (ts : List Ti) (hr : Row w TA (ts.flatMap tiC)) (htl : ts.length ≤ 1000000) (x a b : Int) :
    Calls Try.prog 27 #[FV EA TA en ec ts.length tc, .int .i64 x, .int .i64 a, .int .i64 b] w fun e w' => e = .returned (.bool (tdB ts x a b)) ∧ Below w.heap.size w w' := by
  have B0 := Lib.hid (BT1.start 30 w #[.slice EA en ec, .slice TA ts.length tc])
  have HR := Lib.hid hr
  clear hr
  go_enter Try.func27, Try.ntmps27
  go_wp2_with fail
  go_loopw [9] (fun i wr => ∃ k : Nat, k ≤ ts.length ∧ i = .int .i64 k ∧ Hid (∀ j, j < k → tdT x a b ts[j]! = false) ∧ Hid (BT1 30 w #[.slice EA en ec, .slice TA ts.length tc] wr)) (fun i _ => ts.length - (intOf i).toNat)
  case atStart => exact ⟨0, Nat.zero_le _, rfl, Lib.hid (fun j hj => absurd hj (Nat.not_lt_zero _)), B0⟩
  case round =>
    clear B0
    obtain ⟨k, hk, rfl, HP, HB⟩ := hrel
    obtain ⟨c0, c1⟩ := HB.out.cells
    have ll := HB.out.lt
    have hk0 : (0 : Int) ≤ (k : Int) := Int.natCast_nonneg _
    by_cases hlt : k < ts.length
    · have hk1 : (k : Int) < (ts.length : Int) := by omega
      obtain ⟨b', off, rfl, hb, hc⟩ := HR.out.at_ (k := 4) (fun _ => rfl) (by omega) hlt
      have k0 := hc 0 _ rfl
      have k1 := hc 1 _ rfl
      have k2 := hc 2 _ rfl
      have k3 := hc 3 _ rfl
      rw [Nat.add_zero] at k0
      rw [← HB.out.b.cell (p := ⟨b', _, none⟩) hb] at k0 k1 k2 k3
      clear hc
      cases hy : tdT x a b ts[k]! with
      | true =>
        have HF : Hid (tdB ts x a b = true) := Lib.hid (any_hit hlt hy)
        generalize ts[k]! = t at *
        obtain ⟨h1, h2, h3⟩ := tdT_iff.1 hy
        obtain ⟨tk, tf, tt, tm⟩ := t
        simp only at h1 h2 h3 k0 k1 k2 k3
        subst h1 h2 h3
        have HBx := Lib.hid (HB.out.alloc (.cells #[.int .i64 tk, .int .i64 tf, .int .i64 tt, .int .i64 tm] 50))
        clear HP HB hy
        go_wp2_with fail
        go_ret
        exact ⟨ret_bool HF.out.symm, HBx.out.b⟩
      | false =>
        have HP2 := Lib.hid (all_step HP.out hy)
        generalize ts[k]! = t at *
        obtain ⟨tk, tf, tt, tm⟩ := t
        simp only at k0 k1 k2 k3
        have HBx := Lib.hid (HB.out.alloc (.cells #[.int .i64 tk, .int .i64 tf, .int .i64 tt, .int .i64 tm] 50))
        clear HP HB
        have hy2 : (tk == x) = false ∨ ((tk == x) = true ∧ (tf == a) = false) ∨ ((tk == x) = true ∧ (tf == a) = true ∧ (tt == b) = false) := by
          have hy' : ((tk == x && tf == a) && tt == b) = false := hy
          cases e1 : (tk == x) with
          | false => exact .inl rfl
          | true =>
            cases e2 : (tf == a) with
            | false => exact .inr (.inl ⟨rfl, rfl⟩)
            | true =>
              rw [e1, e2] at hy'
              exact .inr (.inr ⟨rfl, rfl, hy'⟩)
        clear hy
        rcases hy2 with h1 | ⟨h1, h2⟩ | ⟨h1, h2, h3⟩
        all_goals
          go_wp2_with fail
          go_roundw
          case rel => exact ⟨k + 1, hlt, by go_num, HP2, HBx⟩
          case measure => simp [intOf]; omega
    · obtain rfl : k = ts.length := by omega
      have HF : Hid (tdB ts x a b = false) := Lib.hid (any_miss HP.out)
      clear HP
      go_wp2_with fail
      go_ret
      exact ⟨ret_bool HF.out.symm, HB.out.b⟩
end Go.Proofs.Ytigicbnkfmbolaa.N7.T

namespace Go.Proofs.Ytigicbnkfmbolaa.N7.T
open Go.RowKit Go.Shelf Go.Proofs.Ytigicbnkfmbolaa.B Go.Proofs.Ytigicbnkfmbolaa.R6 Go.Proofs.Ytigicbnkfmbolaa.R6.T Go.Proofs.Ytigicbnkfmbolaa.N7
set_option maxRecDepth 100000 in
set_option maxHeartbeats 4000000 in
theorem blocks_doc (w : World) (EA TA : Option Addr) (ec tc : Nat) (es : List Ev) (ts : List Ti) (hr : Row w TA (ts.flatMap tiC)) (hs : SmF es ts) (at_ : Int) :
    Calls Try.prog 9 #[FV EA TA es.length ec ts.length tc, .int .i64 at_] w (InP w (inL es.length (blkS es.length ts at_))) := by
  obtain ⟨i0, hi0, hi1, hi2, hi3⟩ := info_parts info_int'
  have hl := hs.t
  have he := hs.e
  have HR := Lib.hid hr
  have HS : Hid (∀ k, k < es.length → hasP es.length at_ = true → blkS es.length ts at_ k = (tdB ts 1 (k : Int) at_ || tdB ts 5 (k : Int) at_)) := Lib.hid (fun k hk h => blk_doc (i := k) hk h)
  have HO : Hid (hasP es.length at_ = false → inL es.length (blkS es.length ts at_) = []) := Lib.hid (fun h => inL_none (fun i _ => blk_out h))
  have HT := Lib.hid (fun (W : World) (hW : Row W TA (ts.flatMap tiC)) (x a b : Int) => tied_doc W EA TA es.length ec tc ts hW (by omega) x a b)
  have L0 := Lib.hid (LX.start w #[.slice EA es.length ec, .slice TA ts.length tc])
  generalize blkS es.length ts at_ = S at *
  clear hr
  go_enter Try.func9, Try.ntmps9
  go_wp2_with fail
  go_loopw [5, 6] (fun u i wr => ∃ k : Nat, k ≤ es.length ∧ i = .int .i64 k ∧ (k ≠ 0 → hasP es.length at_ = true) ∧ Hid (LX w #[.slice EA es.length ec, .slice TA ts.length tc] u (inL k S) wr)) (fun _ i _ => es.length - (intOf i).toNat)
  case atStart => exact ⟨0, Nat.zero_le _, rfl, fun h => absurd rfl h, L0⟩
  case round =>
    clear L0
    obtain ⟨k, hk, rfl, hin, LL⟩ := hrel
    obtain ⟨wo, rfl⟩ : ∃ wo, wo = wr := ⟨wr, rfl⟩
    obtain ⟨ua, uc, rfl⟩ := own_slice LL.out.o
    obtain ⟨c0, c1⟩ := LL.out.b.cells
    have ll := LL.out.b.lt
    have hlen := inL_len k S
    have hk0 : (0 : Int) ≤ (k : Int) := Int.natCast_nonneg _
    cases hq : hasP es.length at_ with
    | false =>
      obtain rfl : k = 0 := by
        by_cases e : k = 0
        · exact e
        · rw [hin e] at hq; cases hq
      have HE : Hid (inL 0 S = inL es.length S) := Lib.hid (HO.out hq).symm
      have hd : (0 : Int) ≤ at_ → ¬ at_ < (es.length : Int) := fun h1 h2 => by rw [hasP_iff.2 ⟨h1, h2⟩] at hq; cases hq
      have hge : ¬ at_ ≥ 0 ∨ (at_ ≥ 0 ∧ ¬ at_ < (es.length : Int)) := by
        by_cases h : at_ ≥ 0
        · exact .inr ⟨h, hd h⟩
        · exact .inl h
      clear hd hq hin HS HO HT
      by_cases h0 : (0 : Int) < (es.length : Int)
      · rcases hge with hg | ⟨hg, hg2⟩
        all_goals
          go_wp2_with fail
          go_ret
          exact LL.out.inP HE.out
      · go_wp2_with fail
        go_ret
        exact LL.out.inP HE.out
    | true =>
      obtain ⟨ha0, ha1⟩ := hasP_iff.1 hq
      have ha2 : at_ ≥ 0 := ha0
      by_cases hlt : k < es.length
      · have hk1 : (k : Int) < (es.length : Int) := by omega
        have HSK := Lib.hid (HS.out k hlt hq)
        have HNX := Lib.hid (inL_next k S)
        have hin' : k + 1 ≠ 0 → hasP es.length at_ = true := fun _ => hq
        have HIN := Lib.hid hin'
        clear hin hin' hq
        go_wp2_with fail
        refine (HT.out _ (HR.out.below (Nat.le_refl _) LL.out.b.b) 1 (k : Int) at_).mono ?_
        rintro e w1 ⟨rfl, hb⟩
        replace LL := Lib.hid (LL.out.call hb)
        clear hb
        cases ht0 : tdB ts 1 (k : Int) at_ with
        | true =>
          rw [ht0] at HSK
          replace HSK : Hid (S k = true) := Lib.hid (by have := HSK.out; simpa using this)
          obtain ⟨c0, c1⟩ := LL.out.b.cells
          have ll := LL.out.b.lt
          clear ht0
          have HNX2 : Hid (inL (k + 1) S = inL k S ++ [(k : Int)]) := Lib.hid (by rw [HNX.out, HSK.out, if_pos rfl])
          clear HNX HSK
          have hl2 := LL.out.o
          generalize inL k S = l at *
          obtain ⟨c0, c1⟩ := LL.out.b.cells
          have ll := LL.out.b.lt
          go_wp2_with (at_builtin; refine wpList_append_own_at _ rfl (.tmp 36) (.tmp 38) 33 rfl w.heap.size 3 i0 _ 1 8 Try.underlying33 hi0 hi1 hi2 hi3 rfl (by omega) _ _ _ rfl (hl2.alloc _) ⟨w1.heap.size, 0, none⟩ 1 1 [.int .i64 (k : Int)] rfl rfl ?c1 ?c2 ?c3 ?c4 ?c5 ?_)
          case c1 =>
            intro j u hj
            have hn := heap_new w1 (.cells #[.int .i64 (k : Int)] 3)
            match j, hj with
            | 0, hj => cases hj; exact cell_blk hn rfl
          case c2 => first | rfl | (intro u hu; simp at hu; rw [hu]; rfl)
          case c3 => unfold maxLen; omega
          case c4 => omega
          case c5 => first | omega | (rw [World.size_alloc]; omega)
          intro v1 w4 hown' hgrow _ hat
          have L1 := Lib.hid (LL.out.push hown' hgrow)
          rw [← HNX2.out] at L1
          clear hown' hgrow hat LL hl2 HNX2
          go_wp2_with fail
          go_roundw
          case rel => exact ⟨k + 1, hlt, by go_num, by first | exact HIN.out | exact fun _ => trivial, L1⟩
          case measure => simp [intOf]; omega
        | false =>
          rw [ht0] at HSK
          replace HSK : Hid (S k = tdB ts 5 (k : Int) at_) := Lib.hid (by have := HSK.out; simpa using this)
          clear ht0
          obtain ⟨c0, c1⟩ := LL.out.b.cells
          have ll := LL.out.b.lt
          go_wp2_with fail
          refine (HT.out _ (HR.out.below (Nat.le_refl _) LL.out.b.b) 5 (k : Int) at_).mono ?_
          rintro e w2 ⟨rfl, hb⟩
          replace LL := Lib.hid (LL.out.call hb)
          clear hb
          cases ht1 : tdB ts 5 (k : Int) at_ with
          | true =>
            rw [ht1] at HSK
            replace HSK : Hid (S k = true) := Lib.hid (by have := HSK.out; simpa using this)
            obtain ⟨c0, c1⟩ := LL.out.b.cells
            have ll := LL.out.b.lt
            clear ht1
            have HNX2 : Hid (inL (k + 1) S = inL k S ++ [(k : Int)]) := Lib.hid (by rw [HNX.out, HSK.out, if_pos rfl])
            clear HNX HSK
            have hl2 := LL.out.o
            generalize inL k S = l at *
            obtain ⟨c0, c1⟩ := LL.out.b.cells
            have ll := LL.out.b.lt
            go_wp2_with (at_builtin; refine wpList_append_own_at _ rfl (.tmp 36) (.tmp 38) 33 rfl w.heap.size 3 i0 _ 1 8 Try.underlying33 hi0 hi1 hi2 hi3 rfl (by omega) _ _ _ rfl (hl2.alloc _) ⟨w2.heap.size, 0, none⟩ 1 1 [.int .i64 (k : Int)] rfl rfl ?c1 ?c2 ?c3 ?c4 ?c5 ?_)
            case c1 =>
              intro j u hj
              have hn := heap_new w2 (.cells #[.int .i64 (k : Int)] 3)
              match j, hj with
              | 0, hj => cases hj; exact cell_blk hn rfl
            case c2 => first | rfl | (intro u hu; simp at hu; rw [hu]; rfl)
            case c3 => unfold maxLen; omega
            case c4 => omega
            case c5 => first | omega | (rw [World.size_alloc]; omega)
            intro v1 w4 hown' hgrow _ hat
            have L1 := Lib.hid (LL.out.push hown' hgrow)
            rw [← HNX2.out] at L1
            clear hown' hgrow hat LL hl2 HNX2
            go_wp2_with fail
            go_roundw
            case rel => exact ⟨k + 1, hlt, by go_num, by first | exact HIN.out | exact fun _ => trivial, L1⟩
            case measure => simp [intOf]; omega
          | false =>
            rw [ht1] at HSK
            replace HSK : Hid (S k = false) := Lib.hid (by have := HSK.out; simpa using this)
            clear ht1
            obtain ⟨c0, c1⟩ := LL.out.b.cells
            have ll := LL.out.b.lt
            have HNX2 : Hid (inL (k + 1) S = inL k S) := Lib.hid (by rw [HNX.out, HSK.out, if_neg (by decide), List.append_nil])
            have L1 : Hid (LX w #[.slice EA es.length ec, .slice TA ts.length tc] (.slice ua (inL k S).length uc) (inL (k + 1) S) _) := Lib.hid (by rw [HNX2.out]; exact LL.out)
            clear HNX HSK LL HNX2
            go_wp2_with fail
            go_roundw
            case rel => exact ⟨k + 1, hlt, by go_num, by first | exact HIN.out | exact fun _ => trivial, L1⟩
            case measure => simp [intOf]; omega
      · obtain rfl : k = es.length := by omega
        have hk2 : ¬ ((es.length : Int) < (es.length : Int)) := by omega
        clear hin hq HS HO HT
        go_wp2_with fail
        go_ret
        exact LL.out.inP rfl
set_option maxRecDepth 100000 in
set_option maxHeartbeats 4000000 in
theorem calls_doc (w : World) (EA TA : Option Addr) (ec tc : Nat) (es : List Ev) (ts : List Ti) (hr : Row w TA (ts.flatMap tiC)) (hs : SmF es ts) (at_ : Int) :
    Calls Try.prog 11 #[FV EA TA es.length ec ts.length tc, .int .i64 at_] w (InP w (inL es.length (clS es.length ts at_))) := by
  obtain ⟨i0, hi0, hi1, hi2, hi3⟩ := info_parts info_int'
  have hl := hs.t
  have he := hs.e
  have HR := Lib.hid hr
  have HS : Hid (∀ k, k < es.length → hasP es.length at_ = true → clS es.length ts at_ k = tdB ts 2 at_ (k : Int)) := Lib.hid (fun k hk h => cl_doc (i := k) hk h)
  have HO : Hid (hasP es.length at_ = false → inL es.length (clS es.length ts at_) = []) := Lib.hid (fun h => inL_none (fun i _ => cl_out h))
  have HT := Lib.hid (fun (W : World) (hW : Row W TA (ts.flatMap tiC)) (x a b : Int) => tied_doc W EA TA es.length ec tc ts hW (by omega) x a b)
  have L0 := Lib.hid (LX.start w #[.slice EA es.length ec, .slice TA ts.length tc])
  generalize clS es.length ts at_ = S at *
  clear hr
  go_enter Try.func11, Try.ntmps11
  go_wp2_with fail
  go_loopw [5, 6] (fun u i wr => ∃ k : Nat, k ≤ es.length ∧ i = .int .i64 k ∧ (k ≠ 0 → hasP es.length at_ = true) ∧ Hid (LX w #[.slice EA es.length ec, .slice TA ts.length tc] u (inL k S) wr)) (fun _ i _ => es.length - (intOf i).toNat)
  case atStart => exact ⟨0, Nat.zero_le _, rfl, fun h => absurd rfl h, L0⟩
  case round =>
    clear L0
    obtain ⟨k, hk, rfl, hin, LL⟩ := hrel
    obtain ⟨wo, rfl⟩ : ∃ wo, wo = wr := ⟨wr, rfl⟩
    obtain ⟨ua, uc, rfl⟩ := own_slice LL.out.o
    obtain ⟨c0, c1⟩ := LL.out.b.cells
    have ll := LL.out.b.lt
    have hlen := inL_len k S
    have hk0 : (0 : Int) ≤ (k : Int) := Int.natCast_nonneg _
    cases hq : hasP es.length at_ with
    | false =>
      obtain rfl : k = 0 := by
        by_cases e : k = 0
        · exact e
        · rw [hin e] at hq; cases hq
      have HE : Hid (inL 0 S = inL es.length S) := Lib.hid (HO.out hq).symm
      have hd : (0 : Int) ≤ at_ → ¬ at_ < (es.length : Int) := fun h1 h2 => by rw [hasP_iff.2 ⟨h1, h2⟩] at hq; cases hq
      have hge : ¬ at_ ≥ 0 ∨ (at_ ≥ 0 ∧ ¬ at_ < (es.length : Int)) := by
        by_cases h : at_ ≥ 0
        · exact .inr ⟨h, hd h⟩
        · exact .inl h
      clear hd hq hin HS HO HT
      by_cases h0 : (0 : Int) < (es.length : Int)
      · rcases hge with hg | ⟨hg, hg2⟩
        all_goals
          go_wp2_with fail
          go_ret
          exact LL.out.inP HE.out
      · go_wp2_with fail
        go_ret
        exact LL.out.inP HE.out
    | true =>
      obtain ⟨ha0, ha1⟩ := hasP_iff.1 hq
      have ha2 : at_ ≥ 0 := ha0
      by_cases hlt : k < es.length
      · have hk1 : (k : Int) < (es.length : Int) := by omega
        have HSK := Lib.hid (HS.out k hlt hq)
        have HNX := Lib.hid (inL_next k S)
        have hin' : k + 1 ≠ 0 → hasP es.length at_ = true := fun _ => hq
        have HIN := Lib.hid hin'
        clear hin hin' hq
        go_wp2_with fail
        refine (HT.out _ (HR.out.below (Nat.le_refl _) LL.out.b.b) 2 at_ (k : Int)).mono ?_
        rintro e w1 ⟨rfl, hb⟩
        replace LL := Lib.hid (LL.out.call hb)
        clear hb
        cases ht0 : tdB ts 2 at_ (k : Int) with
        | true =>
          rw [ht0] at HSK
          replace HSK : Hid (S k = true) := Lib.hid (by have := HSK.out; simpa using this)
          obtain ⟨c0, c1⟩ := LL.out.b.cells
          have ll := LL.out.b.lt
          clear ht0
          have HNX2 : Hid (inL (k + 1) S = inL k S ++ [(k : Int)]) := Lib.hid (by rw [HNX.out, HSK.out, if_pos rfl])
          clear HNX HSK
          have hl2 := LL.out.o
          generalize inL k S = l at *
          obtain ⟨c0, c1⟩ := LL.out.b.cells
          have ll := LL.out.b.lt
          go_wp2_with (at_builtin; refine wpList_append_own_at _ rfl (.tmp 30) (.tmp 32) 33 rfl w.heap.size 3 i0 _ 1 8 Try.underlying33 hi0 hi1 hi2 hi3 rfl (by omega) _ _ _ rfl (hl2.alloc _) ⟨w1.heap.size, 0, none⟩ 1 1 [.int .i64 (k : Int)] rfl rfl ?c1 ?c2 ?c3 ?c4 ?c5 ?_)
          case c1 =>
            intro j u hj
            have hn := heap_new w1 (.cells #[.int .i64 (k : Int)] 3)
            match j, hj with
            | 0, hj => cases hj; exact cell_blk hn rfl
          case c2 => first | rfl | (intro u hu; simp at hu; rw [hu]; rfl)
          case c3 => unfold maxLen; omega
          case c4 => omega
          case c5 => first | omega | (rw [World.size_alloc]; omega)
          intro v1 w4 hown' hgrow _ hat
          have L1 := Lib.hid (LL.out.push hown' hgrow)
          rw [← HNX2.out] at L1
          clear hown' hgrow hat LL hl2 HNX2
          go_wp2_with fail
          go_roundw
          case rel => exact ⟨k + 1, hlt, by go_num, by first | exact HIN.out | exact fun _ => trivial, L1⟩
          case measure => simp [intOf]; omega
        | false =>
          rw [ht0] at HSK
          replace HSK : Hid (S k = false) := Lib.hid (by have := HSK.out; simpa using this)
          clear ht0
          obtain ⟨c0, c1⟩ := LL.out.b.cells
          have ll := LL.out.b.lt
          have HNX2 : Hid (inL (k + 1) S = inL k S) := Lib.hid (by rw [HNX.out, HSK.out, if_neg (by decide), List.append_nil])
          have L1 : Hid (LX w #[.slice EA es.length ec, .slice TA ts.length tc] (.slice ua (inL k S).length uc) (inL (k + 1) S) _) := Lib.hid (by rw [HNX2.out]; exact LL.out)
          clear HNX HSK LL HNX2
          go_wp2_with fail
          go_roundw
          case rel => exact ⟨k + 1, hlt, by go_num, by first | exact HIN.out | exact fun _ => trivial, L1⟩
          case measure => simp [intOf]; omega
      · obtain rfl : k = es.length := by omega
        have hk2 : ¬ ((es.length : Int) < (es.length : Int)) := by omega
        clear hin hq HS HO HT
        go_wp2_with fail
        go_ret
        exact LL.out.inP rfl
end Go.Proofs.Ytigicbnkfmbolaa.N7.T
