/-
  Contracts of isEnabled and Enabled.
-/
import Derived.Test.YtplplkchibefjaaMkD
namespace Go.Proofs.Ytplplkchibefjaa.M5
open Go.RowKit Go.Shelf Go.Proofs.Ytplplkchibefjaa.B

set_option maxRecDepth 100000 in
set_option maxHeartbeats 1000000 in
theorem stop1_any (w : World) (t : Ti) (A : Option Addr) (c : Nat) (l : List Mk) (k : Int) (b1 b2 : Nat) (h1 : w.heap[b1]? = some (.cells #[.int .i64 k] 3 (0, 0))) (h2 : w.heap[b2]? = some (.cells #[.slice A l.length c] 57 (0, 0))) (hr : Row w A (l.flatMap mkC)) :
    Calls Try.prog 87 (#[.agg #[.int .i64 t.kind, .int .i64 t.fr, .int .i64 t.to, .int .i64 t.time]] ++ #[.pointer (some ⟨b1, 0, none⟩), .pointer (some ⟨b2, 0, none⟩)]) w fun e w' => e = .returned (.bool (stopsB l k t)) ∧ Below w.heap.size w w' := by
  have c1 : w.cell? ⟨b1, 0, none⟩ = some (.int .i64 k) := cell_blk h1 rfl
  have c2 : w.cell? ⟨b2, 0, none⟩ = some (.slice A l.length c) := cell_blk h2 rfl
  have l1 := blk_lt h1
  have l2 := blk_lt h2
  have hb := (Below.refl w.heap.size w).alloc (Nat.le_refl _) (.cells #[.int .i64 t.kind, .int .i64 t.fr, .int .i64 t.to, .int .i64 t.time] 49)
  have C := Lib.hid (holds_any (w.alloc (.cells #[.int .i64 t.kind, .int .i64 t.fr, .int .i64 t.to, .int .i64 t.time] 49)) A c l t (hr.below (Nat.le_refl _) hb))
  have HB := Lib.hid hb
  clear h1 h2 hr hb
  show Calls Try.prog 87 #[.agg #[.int .i64 t.kind, .int .i64 t.fr, .int .i64 t.to, .int .i64 t.time], .pointer (some ⟨b1, 0, none⟩), .pointer (some ⟨b2, 0, none⟩)] w _
  have HS : Hid (stopsB l k t = (t.to == k && holdsB l t)) := Lib.hid rfl
  cases ht : (t.to == k) with
  | false =>
    rw [ht] at HS
    go_enter Try.func87, Try.ntmps87
    go_wp2_with fail
    go_ret
    exact ⟨ret_bool (by rw [HS.out]; rfl), HB.out⟩
  | true =>
    rw [ht] at HS
    go_enter Try.func87, Try.ntmps87
    go_wp2_with fail
    refine C.out.mono ?_
    rintro e w3 ⟨rfl, hb3⟩
    have HB3 := Lib.hid (HB.out.trans (hb3.mono HB.out.size))
    clear hb3 C
    go_wp2_with fail
    go_ret
    exact ⟨ret_bool (by rw [HS.out]; simp), HB3.out⟩

set_option maxRecDepth 100000 in
set_option maxHeartbeats 2000000 in
theorem isEnabled_any (w : World) (EA TA A : Option Addr) (en ec tc c : Nat) (ts : List Ti) (l : List Mk) (k : Nat) (hk : k < l.length) (ht : Row w TA (ts.flatMap tiC)) (htl : ts.length * 32 ≤ 140737488351232) (hr : Row w A (l.flatMap mkC)) :
    Calls Try.prog 63 #[.agg #[.slice EA en ec, .slice TA ts.length tc], .slice A l.length c, .int .i64 k] w fun e w' => e = .returned (.bool (enB ts l k)) ∧ Below w.heap.size w w' := by
  obtain ⟨W1, hW1⟩ : ∃ W1, W1 = w.alloc (.cells #[.slice EA en ec, .slice TA ts.length tc] 32) := ⟨_, rfl⟩
  obtain ⟨W2, hW2⟩ : ∃ W2, W2 = W1.alloc (.cells #[.slice A l.length c] 57) := ⟨_, rfl⟩
  obtain ⟨W3, hW3⟩ : ∃ W3, W3 = W2.alloc (.cells #[.int .i64 k] 3) := ⟨_, rfl⟩
  have s1 : W1.heap.size = w.heap.size + 1 := by rw [hW1, World.size_alloc]
  have s2 : W2.heap.size = w.heap.size + 1 + 1 := by rw [hW2, World.size_alloc, s1]
  have s3 : W3.heap.size = w.heap.size + 1 + 1 + 1 := by rw [hW3, World.size_alloc, s2]
  have hb : Below w.heap.size w W3 := by rw [hW3, hW2, hW1]; exact below3 _ _ _ _
  have n1 : W3.heap[w.heap.size + 1]? = some (.cells #[.slice A l.length c] 57 (0, 0)) := by
    rw [hW3]; refine (Below.heap_alloc _ _ _ (by omega)).trans ?_
    rw [hW2, ← s1]; exact heap_new _ _
  have n2 : W3.heap[w.heap.size + 1 + 1]? = some (.cells #[.int .i64 (k : Int)] 3 (0, 0)) := by rw [hW3, ← s2]; exact heap_new _ _
  have C := Lib.hid (any_ti W3 TA tc ts (stopsB l (k : Int)) 87 #[.pointer (some ⟨w.heap.size + 1 + 1, 0, none⟩), .pointer (some ⟨w.heap.size + 1, 0, none⟩)] (ht.below (Nat.le_refl _) hb) htl (enters_of Try.func87 (by kernel_rfl) rfl)
    (fun W t hW => stop1_any W t A c l k _ _ ((hW.block _ (by omega)).trans n2) ((hW.block _ (by omega)).trans n1) (hr.below (Nat.le_refl _) (hb.trans (hW.mono (by omega))))))
  have HB := Lib.hid hb
  obtain ⟨b, off, rfl, hbl, hc⟩ := hr.at_ (k := 3) (fun _ => rfl) (by omega) hk
  have k0 := hc 0 _ rfl
  rw [Nat.add_zero] at k0
  have HS : Hid (enB ts l k = (l[k]!.inn && !(ts.any (stopsB l k)))) := Lib.hid rfl
  generalize l[k]!.inn = inn at *
  clear ht hr n1 n2 hb hc
  have l1 : b < w.heap.size + 1 := by omega
  have l2 : b < w.heap.size + 1 + 1 := by omega
  subst hW3 hW2 hW1
  cases inn with
  | false =>
    go_enter Try.func63, Try.ntmps63
    go_wp2_with fail
    go_ret
    exact ⟨ret_bool (by rw [HS.out]; rfl), HB.out⟩
  | true =>
    go_enter Try.func63, Try.ntmps63
    go_wp2_with fail
    refine C.out.mono ?_
    rintro e w4 ⟨rfl, hb4⟩
    have HB4 := Lib.hid (HB.out.trans (hb4.mono HB.out.size))
    clear hb4 C
    go_wp2_with fail
    go_ret
    exact ⟨ret_bool (by rw [HS.out]; simp), HB4.out⟩

set_option maxRecDepth 100000 in
set_option maxHeartbeats 2000000 in
theorem enabled_any (w : World) (EA TA A : Option Addr) (en ec tc c : Nat) (ts : List Ti) (l : List Mk) (i : Int) (ht : Row w TA (ts.flatMap tiC)) (htl : ts.length * 32 ≤ 140737488351232) (hr : Row w A (l.flatMap mkC)) (hl : l.length * 24 ≤ 140737488351232) :
    Calls Try.prog 31 #[.agg #[.slice EA en ec, .slice TA ts.length tc], .slice A l.length c, .int .i64 i] w fun e w' => e = .returned (.bool (enabledB en ts l i)) ∧ Below w.heap.size w w' := by
  have hb := (Below.refl w.heap.size w).alloc (Nat.le_refl _) (.cells #[.slice EA en ec, .slice TA ts.length tc] 32)
  have n0 := heap_new w (.cells #[.slice EA en ec, .slice TA ts.length tc] 32)
  have C := Lib.hid (fits_any (w.alloc (.cells #[.slice EA en ec, .slice TA ts.length tc] 32)) EA TA A en ec ts.length tc c l (hr.below (Nat.le_refl _) hb) hl)
  have HB := Lib.hid hb
  have N0 := Lib.hid n0
  have HT := Lib.hid ht
  have HR := Lib.hid hr
  have HS : Hid (enabledB en ts l i = (fitsB en l && hasI l.length i && enB ts l i.toNat)) := Lib.hid rfl
  clear hb n0 ht hr
  cases hf : fitsB en l with
  | false =>
    rw [hf] at C HS
    clear hf
    go_enter Try.func31, Try.ntmps31
    go_wp2_with fail
    refine C.out.mono ?_
    rintro e w3 ⟨rfl, hb3⟩
    have HB3 := Lib.hid (HB.out.trans (hb3.mono HB.out.size))
    clear hb3
    go_wp2_with fail
    go_ret
    exact ⟨ret_bool (by rw [HS.out]; rfl), HB3.out⟩
  | true =>
    rw [hf] at C HS
    clear hf
    have D := fun W => Lib.hid (has_any A l.length c i W)
    cases hh : hasI l.length i with
    | false =>
      rw [hh] at D HS
      clear hh
      go_enter Try.func31, Try.ntmps31
      go_wp2_with fail
      refine C.out.mono ?_
      rintro e w3 ⟨rfl, hb3⟩
      have HB3 := Lib.hid (HB.out.trans (hb3.mono HB.out.size))
      clear hb3
      go_wp2_with fail
      refine (D _).out.mono ?_
      rintro e w4 ⟨rfl, rfl⟩
      go_wp2_with fail
      go_ret
      exact ⟨ret_bool (by rw [HS.out]; rfl), HB3.out⟩
    | true =>
      rw [hh] at D HS
      obtain ⟨k, hk, rfl⟩ := has_iff.1 hh
      clear hh
      go_enter Try.func31, Try.ntmps31
      go_wp2_with fail
      refine C.out.mono ?_
      rintro e w3 ⟨rfl, hb3⟩
      have HB3 := Lib.hid (HB.out.trans (hb3.mono HB.out.size))
      have hz3 := hb3.size
      rw [World.size_alloc] at hz3
      have n3 := (hb3.block w.heap.size (by rw [World.size_alloc]; omega)).trans N0.out
      have c0 : w3.cell? ⟨w.heap.size, 0, none⟩ = some (.slice EA en ec) := cell_blk n3 rfl
      have c1 : w3.cell? ⟨w.heap.size, 1, none⟩ = some (.slice TA ts.length tc) := cell_blk n3 rfl
      have E := Lib.hid (isEnabled_any w3 EA TA A en ec tc c ts l k hk (HT.out.below (Nat.le_refl _) HB3.out) htl (HR.out.below (Nat.le_refl _) HB3.out))
      clear hb3 n3 C
      go_wp2_with fail
      refine (D _).out.mono ?_
      rintro e w4 ⟨rfl, rfl⟩
      go_wp2_with fail
      refine E.out.mono ?_
      rintro e w5 ⟨rfl, hb5⟩
      have HB5 := Lib.hid (HB3.out.trans (hb5.mono HB3.out.size))
      clear hb5
      go_wp2_with fail
      go_ret
      exact ⟨ret_bool (by rw [HS.out]; simp), HB5.out⟩
end Go.Proofs.Ytplplkchibefjaa.M5
