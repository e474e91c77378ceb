/-
  Contracts of flat.Names, has, isBetweenEvents.
-/
import Derived.Test.YtplplkchibefjaaFlK
import Derived.Test.YtplplkchibefjaaGrCl
namespace Go.Proofs.Ytplplkchibefjaa
open Go.RowKit Go.Shelf

/-- The first k events' names. -/
def namL (l : List Ev) (k : Nat) : List ByteArray := (l.take k).map (·.name)
theorem nam_succ {l : List Ev} {k : Nat} (hk : k < l.length) : namL l (k + 1) = namL l k ++ [l[k]!.name] := by
  rw [namL, List.take_succ_eq_append_getElem hk, List.map_append, ← getElem!_pos l k hk]; rfl
theorem nam_len {l : List Ev} {k : Nat} (hk : k ≤ l.length) : (namL l k).length = k := by simp [namL, hk]
theorem info_str : (Try.prog.info? 9).map (fun i => (i.zero, i.size, i.bytes)) = some (some (.string ⟨#[]⟩), 1, 16) := by kernel_rfl

set_option maxRecDepth 100000 in
set_option maxHeartbeats 2000000 in
theorem names_fl (w : World) (A TA : Option Addr) (c tn tc : Nat) (l : List Ev) (hr : Row w A (l.flatMap evC)) (hl : l.length * 64 ≤ 140737488351232) :
    Calls Try.prog 46 #[.agg #[.slice A l.length c, .slice TA tn tc]] w fun e w' => ∃ v, e = .returned v ∧ w'.ownsRow w.heap.size 9 1 v l.length ((l.map (·.name)).map Value.string) ∧ Below w.heap.size w w' := by
  obtain ⟨i0, hi0, hi1, hi2, hi3⟩ := info_parts info_str
  have HR := Lib.hid hr
  clear hr
  go_enter Try.func46, Try.ntmps46
  go_wp2_with fail
  go_loopw [3, 9] (fun v i wr => ∃ k : Nat, k ≤ l.length ∧ i = .int .i64 k ∧ Hid (wr.ownsRow w.heap.size 9 1 v k ((namL l k).map Value.string)) ∧ Hid (Below w.heap.size w wr)) (fun _ i _ => l.length - (intOf i).toNat)
  case atStart => exact ⟨0, Nat.zero_le _, rfl, Lib.hid (World.ownsRow_nil _ _ _ _), Lib.hid ((Below.refl _ _).alloc (Nat.le_refl _) _)⟩
  case round =>
    obtain ⟨k, hk, rfl, HV, HB⟩ := hrel
    have hB := HB.out.size
    by_cases hlt : k < l.length
    · obtain ⟨b, off, rfl, hb, hc⟩ := HR.out.at_ (k := 6) (fun _ => rfl) (by omega) hlt
      have k0 := hc 0 _ rfl
      have k1 := hc 1 _ rfl
      have k2 := hc 2 _ rfl
      have k3 := hc 3 _ rfl
      have k4 := hc 4 _ rfl
      have k5 := hc 5 _ rfl
      rw [Nat.add_zero] at k0
      rw [← HB.out.cell (p := ⟨b, _, none⟩) hb] at k0 k1 k2 k3 k4 k5
      have hk0 : (0 : Int) ≤ (k : Int) := Int.natCast_nonneg _
      have hk1 : (k : Int) < (l.length : Int) := by omega
      have hs := nam_len hk
      obtain ⟨va, vc, rfl⟩ := own_slice HV.out
      have HY := Lib.hid (nam_succ hlt)
      clear hc
      generalize l[k]! = t at *
      have HVA := Lib.hid (HV.out.alloc (.cells #[.string t.name, .string t.group, .string t.role, .bool t.inn, .bool t.done, .int .i64 t.due] 46))
      have HBA := Lib.hid (HB.out.alloc hB (.cells #[.string t.name, .string t.group, .string t.role, .bool t.inn, .bool t.done, .int .i64 t.due] 46))
      go_wp2_with (at_builtin; refine wpList_append_own _ rfl (.tmp 13) (.tmp 16) 84 rfl w.heap.size 9 i0 _ 1 16 Try.underlying84 hi0 hi1 hi2 hi3 rfl (by omega) _ _ _ rfl (HVA.out.alloc _) ⟨wr.heap.size + 1, 0, none⟩ 1 1 [.string t.name] rfl rfl ?c1 ?c2 ?c3 ?c4 ?c5 ?_)
      case c1 =>
        intro j u hj
        match j, hj with
        | 0, hj => simp at hj; subst hj; simp [Addr.add]
      case c2 => intro u hu; simp at hu; subst hu; rfl
      case c3 => unfold maxLen; omega
      case c4 => omega
      case c5 => rw [World.size_alloc, World.size_alloc]; omega
      intro v' w4 hown' hgrow _
      have HB4 : Hid (Below w.heap.size w w4) := Lib.hid ((HBA.out.alloc (by rw [World.size_alloc]; omega) _).grown hgrow (by rw [World.size_alloc, World.size_alloc]; omega) (fun j hj => (HVA.out.lt j hj).1))
      have HV4 : Hid (w4.ownsRow w.heap.size 9 1 v' (k + 1) ((namL l (k + 1)).map Value.string)) := Lib.hid (by
        rw [HY.out, List.map_append]; exact hown')
      clear hown' hgrow
      go_wp2_with fail
      go_roundw
      case rel => exact ⟨k + 1, hlt, by go_num, HV4, HB4⟩
      case measure => simp [intOf]; omega
    · obtain rfl : k = l.length := by omega
      have e : namL l l.length = l.map (·.name) := by rw [namL, List.take_length]
      rw [e] at HV
      go_wp2_with fail
      go_ret
      refine ⟨_, rfl, ?_, HB.out⟩
      have h := HV.out
      exact h

/-- Is there an event at that place? -/
def hasI (n : Nat) (i : Int) : Bool := decide (0 ≤ i) && decide (i < (n : Int))
set_option maxHeartbeats 1000000 in
theorem has_fl (w : World) (A TA : Option Addr) (n c tn tc : Nat) (i : Int) :
    Calls Try.prog 85 #[.agg #[.slice A n c, .slice TA tn tc], .int .i64 i] w fun e w' => e = .returned (.bool (hasI n i)) ∧ w' = w.alloc (.cells #[.slice A n c, .slice TA tn tc] 32) := by
  unfold hasI
  by_cases h0 : 0 ≤ i
  · by_cases h1 : i < (n : Int)
    · rw [decide_eq_true h0, decide_eq_true h1]
      go_enter Try.func85, Try.ntmps85
      go_wp2
      go_ret
      exact ⟨rfl, rfl⟩
    · rw [decide_eq_true h0, decide_eq_false h1]
      go_enter Try.func85, Try.ntmps85
      go_wp2
      go_ret
      exact ⟨rfl, rfl⟩
  · rw [decide_eq_false h0]
    go_enter Try.func85, Try.ntmps85
    go_wp2
    go_ret
    exact ⟨rfl, rfl⟩
end Go.Proofs.Ytplplkchibefjaa
