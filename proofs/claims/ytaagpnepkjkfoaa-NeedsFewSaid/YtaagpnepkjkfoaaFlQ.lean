/-
  Contracts of flat.chosen, Into, Out, over the helpers alone.
-/
import Derived.Test.YtaagpnepkjkfoaaProg
import Derived.Test.YtaagpnepkjkfoaaBas
namespace Go.Proofs.Ytaagpnepkjkfoaa.F4
open Go.RowKit Go.Shelf Go.Proofs.Ytaagpnepkjkfoaa.B

theorem info_ti' : (Try.prog.info? 62).map (fun i => (i.zero, i.size, i.bytes)) = some (some (.agg #[.int .i64 0, .int .i64 0, .int .i64 0, .int .i64 0]), 4, 32) := by kernel_rfl
set_option maxRecDepth 100000 in
set_option maxHeartbeats 2000000 in
theorem chosen_any (w : World) (EA A : Option Addr) (en ec c : Nat) (l : List Ti) (p : Ti → Bool) (fl : Nat) (lb : Array Value) (hr : Row w A (l.flatMap tiC)) (hl : l.length * 32 ≤ 140737488351232) (eg : ∀ args w, (callFunc fl args).run Try.prog w = .ok (.enter fl args) w)
    (hcall : ∀ (W : World) (t : Ti), Below w.heap.size w W → Calls Try.prog fl (#[.agg #[.int .i64 t.kind, .int .i64 t.fr, .int .i64 t.to, .int .i64 t.time]] ++ lb) W fun e W' => e = .returned (.bool (p t)) ∧ Below W.heap.size W W') :
    Calls Try.prog 86 #[.agg #[.slice EA en ec, .slice A l.length c], .func (.func fl) #[] lb] w fun e w' => ∃ v, e = .returned v ∧ w'.ownsRow w.heap.size 62 4 v (l.filter p).length ((l.filter p).flatMap tiC) ∧ Below w.heap.size w w' := by
  obtain ⟨i0, hi0, hi1, hi2, hi3⟩ := info_parts info_ti'
  have HC := Lib.hid hcall
  have HR := Lib.hid hr
  clear hcall hr
  go_enter Try.func86, Try.ntmps86
  go_wp2_with fail
  go_loopw [5, 11] (fun v i wr => ∃ k : Nat, k ≤ l.length ∧ i = .int .i64 k ∧ Hid (wr.ownsRow w.heap.size 62 4 v (selL p l k).length ((selL p l k).flatMap tiC)) ∧ Hid (Below w.heap.size w wr)) (fun _ i _ => l.length - (intOf i).toNat)
  case atStart => exact ⟨0, Nat.zero_le _, rfl, Lib.hid (World.ownsRow_nil _ _ _ _), Lib.hid ((Below.refl _ _).alloc (Nat.le_refl _) _)⟩
  case round =>
    obtain ⟨k, hk, rfl, HV, HB⟩ := hrel
    have hB := HB.out.size
    by_cases hlt : k < l.length
    · obtain ⟨b, off, rfl, hb, hc⟩ := HR.out.at_ (k := 4) (fun _ => rfl) (by omega) hlt
      have k0 := hc 0 _ rfl
      have k1 := hc 1 _ rfl
      have k2 := hc 2 _ rfl
      have k3 := hc 3 _ rfl
      rw [Nat.add_zero] at k0
      rw [← HB.out.cell (p := ⟨b, _, none⟩) hb] at k0 k1 k2 k3
      have hk0 : (0 : Int) ≤ (k : Int) := Int.natCast_nonneg _
      have hk1 : (k : Int) < (l.length : Int) := by omega
      have hs := sel_len p l k
      obtain ⟨va, vc, rfl⟩ := own_slice HV.out
      have HY := fun h => Lib.hid (sel_yes (p := p) hlt h)
      have HN := fun h => Lib.hid (sel_no (p := p) hlt h)
      clear hc
      generalize l[k]! = t at *
      have hBA : Below w.heap.size w (wr.alloc (.cells #[.int .i64 t.kind, .int .i64 t.fr, .int .i64 t.to, .int .i64 t.time] 62)) := HB.out.alloc hB _
      have C := Lib.hid (HC.out _ t hBA)
      have hn := heap_new wr (.cells #[.int .i64 t.kind, .int .i64 t.fr, .int .i64 t.to, .int .i64 t.time] 62)
      go_wp2_with fail
      refine C.out.mono ?_
      rintro e w3 ⟨rfl, hb3⟩
      have hz3 := hb3.size
      rw [World.size_alloc] at hz3
      have hn3 := (hb3.block wr.heap.size (by rw [World.size_alloc]; omega)).trans hn
      have y0 : w3.cell? ⟨wr.heap.size, 0, none⟩ = some (.int .i64 t.kind) := cell_blk hn3 rfl
      have y1 : w3.cell? ⟨wr.heap.size, 1, none⟩ = some (.int .i64 t.fr) := cell_blk hn3 rfl
      have y2 : w3.cell? ⟨wr.heap.size, 2, none⟩ = some (.int .i64 t.to) := cell_blk hn3 rfl
      have y3 : w3.cell? ⟨wr.heap.size, 3, none⟩ = some (.int .i64 t.time) := cell_blk hn3 rfl
      have HB3 := Lib.hid (hBA.trans (hb3.mono (by rw [World.size_alloc]; omega)))
      have HV3 := Lib.hid (own_below (own_below HV.out ((Below.refl _ wr).alloc (Nat.le_refl _) (.cells #[.int .i64 t.kind, .int .i64 t.fr, .int .i64 t.to, .int .i64 t.time] 62))) hb3)
      clear C hn hn3 hb3 hBA k0 k1 k2 k3
      cases hp : p t with
      | false =>
        have e1 := (HN hp).out
        go_wp2_with fail
        go_roundw
        case rel => exact ⟨k + 1, hlt, by go_num, by rw [e1]; exact HV3, HB3⟩
        case measure => simp [intOf]; omega
      | true =>
        have e1 := (HY hp).out
        go_wp2_with (at_builtin; refine wpList_append_own _ rfl (.tmp 18) (.tmp 20) 43 rfl w.heap.size 62 i0 _ 4 32 Try.underlying43 hi0 hi1 hi2 hi3 rfl (by omega) _ _ _ rfl (HV3.out.alloc _) ⟨w3.heap.size, 0, none⟩ 1 1 (tiC t) rfl rfl ?c1 ?c2 ?c3 ?c4 ?c5 ?_)
        case c1 =>
          intro j u hj
          have hn := heap_new w3 (.cells #[.int .i64 t.kind, .int .i64 t.fr, .int .i64 t.to, .int .i64 t.time] 62)
          match j, hj with
          | 0, hj => cases hj; exact cell_blk hn rfl
          | 1, hj => cases hj; exact cell_blk hn rfl
          | 2, hj => cases hj; exact cell_blk hn rfl
          | 3, hj => cases hj; exact cell_blk hn rfl
        case c2 => intro u hu; simp [tiC] at hu; rcases hu with rfl | rfl | rfl | rfl <;> rfl
        case c3 => unfold maxLen; omega
        case c4 => omega
        case c5 => rw [World.size_alloc]; omega
        intro v' w4 hown' hgrow _
        have HB4 : Hid (Below w.heap.size w w4) := Lib.hid ((HB3.out.alloc (by omega) _).grown hgrow (by rw [World.size_alloc]; omega) (fun j hj => (HV3.out.lt j hj).1))
        have HV4 : Hid (w4.ownsRow w.heap.size 62 4 v' (selL p l (k + 1)).length ((selL p l (k + 1)).flatMap tiC)) := Lib.hid (by
          rw [e1, List.length_append, List.flatMap_append]
          have e8 : (List.flatMap tiC [t]) = tiC t := by simp
          rw [e8]; exact hown')
        clear hown' hgrow e1
        go_wp2_with fail
        go_roundw
        case rel => exact ⟨k + 1, hlt, by go_num, HV4, HB4⟩
        case measure => simp [intOf]; omega
    · obtain rfl : k = l.length := by omega
      have e : selL p l l.length = l.filter p := by rw [selL, List.take_length]
      rw [e] at HV
      go_wp2_with fail
      go_ret
      exact ⟨_, rfl, HV.out, HB.out⟩

/-- The ties of a kind that lead to an event; that come from one. -/
def intoB (kind to_ : Int) (t : Ti) : Bool := t.kind == kind && t.to == to_
def outB (kind fr : Int) (t : Ti) : Bool := t.kind == kind && t.fr == fr

set_option maxHeartbeats 1000000 in
theorem into1_any (t : Ti) (kind to_ : Int) (b1 b2 : Nat) (w : World) (h1 : w.heap[b1]? = some (.cells #[.int .i64 kind] 3 (0, 0))) (h2 : w.heap[b2]? = some (.cells #[.int .i64 to_] 3 (0, 0))) :
    Calls Try.prog 87 (#[.agg #[.int .i64 t.kind, .int .i64 t.fr, .int .i64 t.to, .int .i64 t.time]] ++ #[.pointer (some ⟨b1, 0, none⟩), .pointer (some ⟨b2, 0, none⟩)]) w fun e w' => e = .returned (.bool (intoB kind to_ t)) ∧ Below w.heap.size w w' := by
  have c1 : w.cell? ⟨b1, 0, none⟩ = some (.int .i64 kind) := by unfold World.cell?; simp only; rw [h1]; rfl
  have c2 : w.cell? ⟨b2, 0, none⟩ = some (.int .i64 to_) := by unfold World.cell?; simp only; rw [h2]; rfl
  have l1 : b1 < w.heap.size := (Array.getElem?_eq_some_iff.1 h1).1
  have l2 : b2 < w.heap.size := (Array.getElem?_eq_some_iff.1 h2).1
  clear h1 h2
  show Calls Try.prog 87 #[.agg #[.int .i64 t.kind, .int .i64 t.fr, .int .i64 t.to, .int .i64 t.time], .pointer (some ⟨b1, 0, none⟩), .pointer (some ⟨b2, 0, none⟩)] w _
  unfold intoB
  have hb : Below w.heap.size w (w.alloc (.cells #[.int .i64 t.kind, .int .i64 t.fr, .int .i64 t.to, .int .i64 t.time] 62)) := (Below.refl _ _).alloc (Nat.le_refl _) _
  cases hk : (t.kind == kind)
  · go_enter Try.func87, Try.ntmps87
    go_wp2
    go_ret
    exact ⟨rfl, hb⟩
  · cases ht : (t.to == to_)
    · go_enter Try.func87, Try.ntmps87
      go_wp2
      go_ret
      exact ⟨rfl, hb⟩
    · go_enter Try.func87, Try.ntmps87
      go_wp2
      go_ret
      exact ⟨rfl, hb⟩


set_option maxHeartbeats 1000000 in
theorem into_any (w : World) (EA A : Option Addr) (en ec c : Nat) (l : List Ti) (kind at_ : Int) (hr : Row w A (l.flatMap tiC)) (hl : l.length * 32 ≤ 140737488351232) :
    Calls Try.prog 69 #[.agg #[.slice EA en ec, .slice A l.length c], .int .i64 kind, .int .i64 at_] w fun e w' => ∃ v, e = .returned v ∧ w'.ownsRow w.heap.size 62 4 v (l.filter (intoB kind at_)).length ((l.filter (intoB kind at_)).flatMap tiC) ∧ Below w.heap.size w w' := by
  obtain ⟨W1, hW1⟩ : ∃ W1, W1 = w.alloc (.cells #[.slice EA en ec, .slice A l.length c] 45) := ⟨_, rfl⟩
  obtain ⟨W2, hW2⟩ : ∃ W2, W2 = W1.alloc (.cells #[.int .i64 kind] 3) := ⟨_, rfl⟩
  obtain ⟨W3, hW3⟩ : ∃ W3, W3 = W2.alloc (.cells #[.int .i64 at_] 3) := ⟨_, rfl⟩
  have s1 : W1.heap.size = w.heap.size + 1 := by rw [hW1, World.size_alloc]
  have s2 : W2.heap.size = w.heap.size + 1 + 1 := by rw [hW2, World.size_alloc, s1]
  have s3 : W3.heap.size = w.heap.size + 1 + 1 + 1 := by rw [hW3, World.size_alloc, s2]
  have hb : Below w.heap.size w W3 := by rw [hW3, hW2, hW1]; exact (((Below.refl _ w).alloc (Nat.le_refl _) _).alloc (by rw [World.size_alloc]; omega) _).alloc (by rw [World.size_alloc, World.size_alloc]; omega) _
  have n1 : W3.heap[w.heap.size + 1]? = some (.cells #[.int .i64 kind] 3 (0, 0)) := by
    rw [hW3]; refine (Below.heap_alloc _ _ _ (by omega)).trans ?_
    rw [hW2, ← s1]; exact heap_new _ _
  have n2 : W3.heap[w.heap.size + 1 + 1]? = some (.cells #[.int .i64 at_] 3 (0, 0)) := by rw [hW3, ← s2]; exact heap_new _ _
  have C := Lib.hid (chosen_any W3 EA A en ec c l (intoB kind at_) 87 #[.pointer (some ⟨w.heap.size + 1, 0, none⟩), .pointer (some ⟨w.heap.size + 1 + 1, 0, none⟩)] (hr.below (Nat.le_refl _) hb) hl (enters_of Try.func87 (by kernel_rfl) rfl)
    (fun W t hW => into1_any t kind at_ _ _ W ((hW.block _ (by omega)).trans n1) ((hW.block _ (by omega)).trans n2)))
  have HB := Lib.hid hb
  clear hr n1 n2 hb
  subst hW3 hW2 hW1
  go_enter Try.func69, Try.ntmps69
  go_wp2_with fail
  refine C.out.mono ?_
  rintro e w4 ⟨v, rfl, ho, hb⟩
  have HR := Lib.hid (HB.out.trans (hb.mono HB.out.size))
  have HO := Lib.hid (own_base ho HB.out.size)
  clear ho hb C
  go_wp2
  go_ret
  exact ⟨_, rfl, HO.out, HR.out⟩

end Go.Proofs.Ytaagpnepkjkfoaa.F4
