/-
  Contracts of slices.Clone of events, of flat.Names, has, isBetweenEvents, and of chosen over a method value, over the helpers alone.
-/
import Derived.Test.YtplplkchibefjaaFlQ
namespace Go.Proofs.Ytplplkchibefjaa.F4
open Go.RowKit Go.Shelf Go.Proofs.Ytplplkchibefjaa.B

theorem one_ev (x : Ev) : ∀ u ∈ evC x, u.oneCell' = true := by intro u hu; simp [evC] at hu; rcases hu with rfl | rfl | rfl | rfl | rfl | rfl <;> rfl
theorem info_ev : (Try.prog.info? 46).map (fun i => (i.zero, i.size, i.bytes)) = some (some (.agg #[.string ⟨#[]⟩, .string ⟨#[]⟩, .string ⟨#[]⟩, .bool false, .bool false, .int .i64 0]), 6, 64) := by kernel_rfl
set_option maxHeartbeats 1000000 in
theorem clone_ev (A : Option Addr) (c : Nat) (l : List Ev) (w : World) (hr : Row w A (l.flatMap evC)) (hl : l.length * 64 ≤ 140737488351232) :
    Calls Try.prog 52 #[.slice A l.length c] w fun e w' => ∃ v, e = .returned v ∧ w'.ownsRow w.heap.size 46 6 v l.length (l.flatMap evC) ∧ Below w.heap.size w w' := by
  obtain ⟨i0, hi, hz0, hz1, hz2⟩ := info_parts info_ev
  have HI := Lib.hid hi
  have HZ0 := Lib.hid hz0
  have HZ1 := Lib.hid hz1
  have HZ2 := Lib.hid hz2
  have q : ∀ (w : World) (a : Option Addr) (n c n' c' : Nat), (binOp .eql 23 (.slice a n c) (.slice none n' c')).run Try.prog w = .ok (.bool a.isNone) w := fun w a n c n' c' => Lib.run_eql_slice_nil w _ _ a n c n' c' Try.underlying23
  have hfl := flat_len evC 6 (fun _ => rfl) l
  clear hi hz0 hz1 hz2
  cases A with
  | none =>
    have h0 : l = [] := by
      cases l with
      | nil => rfl
      | cons t r =>
        obtain ⟨b, off, e, _⟩ := hr (fun e => by rw [e] at hfl; simp at hfl)
        cases e
    subst h0
    clear hfl
    go_enter Try.func52, Try.ntmps52
    go_wp2
    go_ret
    exact ⟨_, rfl, World.ownsRow_nil _ _ _ _, Below.refl _ _⟩
  | some ad =>
    have hc' : ∀ j u, (l.flatMap evC)[j]? = some u → (w.alloc (.cells #[] 46)).cell? (ad.add j) = some u := by
      intro j u hu
      have hne : l.flatMap evC ≠ [] := fun e => by rw [e, List.getElem?_nil] at hu; cases hu
      obtain ⟨b, off, e, hb, hcell⟩ := hr hne
      obtain rfl : ad = ⟨b, off, none⟩ := Option.some.inj e
      rw [Addr.add_lit]
      exact (World.cell?_alloc_lt _ _ ⟨b, off + j, none⟩ hb).trans (hcell j u hu)
    have hc := Lib.hid hc'
    clear hc'
    have HFL := Lib.hid hfl
    have H1 := Lib.hid (flat_one one_ev l)
    clear hfl
    go_enter Try.func52, Try.ntmps52
    go_wp2_with (at_builtin; refine wpList_append_own _ rfl (.tmp 5) (.tmp 6) 23 rfl w.heap.size 46 i0 _ 6 64 Try.underlying23 HI.out HZ0.out HZ1.out HZ2.out rfl (by omega) _ _ _ rfl (World.ownsRow_made w #[] 0 (Nat.le_refl _) (Nat.zero_le _) (by simp)) ad l.length c (l.flatMap evC) rfl HFL.out ?c1 H1.out ?c3 ?c4 ?c5 ?_)
    case c1 => exact hc.out
    case c3 => unfold maxLen; omega
    case c4 => omega
    case c5 => simp
    intro v' w1 hown hgrow _
    go_wp2
    go_ret
    exact ⟨v', rfl, by simpa using hown, ((Below.refl _ w).alloc (Nat.le_refl _) _).grown hgrow (by simp) (by intro k hk; simp [Value.ownBlock] at hk; omega)⟩
/-- The first k events' names. -/
def namL (l : List Ev) (k : Nat) : List ByteArray := (l.take k).map (·.name)
theorem nam_succ {l : List Ev} {k : Nat} (hk : k < l.length) : namL l (k + 1) = namL l k ++ [l[k]!.name] := by
  rw [namL, List.take_succ_eq_append_getElem hk, List.map_append, ← getElem!_pos l k hk]; rfl
theorem nam_len {l : List Ev} {k : Nat} (hk : k ≤ l.length) : (namL l k).length = k := by simp [namL, hk]
theorem info_str : (Try.prog.info? 9).map (fun i => (i.zero, i.size, i.bytes)) = some (some (.string ⟨#[]⟩), 1, 16) := by kernel_rfl

set_option maxRecDepth 100000 in
set_option maxHeartbeats 2000000 in
theorem names_fl (w : World) (A TA : Option Addr) (c tn tc : Nat) (l : List Ev) (hr : Row w A (l.flatMap evC)) (hl : l.length * 64 ≤ 140737488351232) :
    Calls Try.prog 46 #[.agg #[.slice A l.length c, .slice TA tn tc]] w fun e w' => ∃ v, e = .returned v ∧ w'.ownsRow w.heap.size 9 1 v l.length ((l.map (·.name)).map Value.string) ∧ Below w.heap.size w w' := by
  obtain ⟨i0, hi0, hi1, hi2, hi3⟩ := info_parts info_str
  have HR := Lib.hid hr
  clear hr
  go_enter Try.func46, Try.ntmps46
  go_wp2_with fail
  go_loopw [3, 9] (fun v i wr => ∃ k : Nat, k ≤ l.length ∧ i = .int .i64 k ∧ Hid (wr.ownsRow w.heap.size 9 1 v k ((namL l k).map Value.string)) ∧ Hid (Below w.heap.size w wr)) (fun _ i _ => l.length - (intOf i).toNat)
  case atStart => exact ⟨0, Nat.zero_le _, rfl, Lib.hid (World.ownsRow_nil _ _ _ _), Lib.hid ((Below.refl _ _).alloc (Nat.le_refl _) _)⟩
  case round =>
    obtain ⟨k, hk, rfl, HV, HB⟩ := hrel
    have hB := HB.out.size
    by_cases hlt : k < l.length
    · obtain ⟨b, off, rfl, hb, hc⟩ := HR.out.at_ (k := 6) (fun _ => rfl) (by omega) hlt
      have k0 := hc 0 _ rfl
      have k1 := hc 1 _ rfl
      have k2 := hc 2 _ rfl
      have k3 := hc 3 _ rfl
      have k4 := hc 4 _ rfl
      have k5 := hc 5 _ rfl
      rw [Nat.add_zero] at k0
      rw [← HB.out.cell (p := ⟨b, _, none⟩) hb] at k0 k1 k2 k3 k4 k5
      have hk0 : (0 : Int) ≤ (k : Int) := Int.natCast_nonneg _
      have hk1 : (k : Int) < (l.length : Int) := by omega
      have hs := nam_len hk
      obtain ⟨va, vc, rfl⟩ := own_slice HV.out
      have HY := Lib.hid (nam_succ hlt)
      clear hc
      generalize l[k]! = t at *
      have HVA := Lib.hid (HV.out.alloc (.cells #[.string t.name, .string t.group, .string t.role, .bool t.inn, .bool t.done, .int .i64 t.due] 46))
      have HBA := Lib.hid (HB.out.alloc hB (.cells #[.string t.name, .string t.group, .string t.role, .bool t.inn, .bool t.done, .int .i64 t.due] 46))
      go_wp2_with (at_builtin; refine wpList_append_own _ rfl (.tmp 13) (.tmp 16) 84 rfl w.heap.size 9 i0 _ 1 16 Try.underlying84 hi0 hi1 hi2 hi3 rfl (by omega) _ _ _ rfl (HVA.out.alloc _) ⟨wr.heap.size + 1, 0, none⟩ 1 1 [.string t.name] rfl rfl ?c1 ?c2 ?c3 ?c4 ?c5 ?_)
      case c1 =>
        intro j u hj
        match j, hj with
        | 0, hj => simp at hj; subst hj; simp [Addr.add]
      case c2 => intro u hu; simp at hu; subst hu; rfl
      case c3 => unfold maxLen; omega
      case c4 => omega
      case c5 => rw [World.size_alloc, World.size_alloc]; omega
      intro v' w4 hown' hgrow _
      have HB4 : Hid (Below w.heap.size w w4) := Lib.hid ((HBA.out.alloc (by rw [World.size_alloc]; omega) _).grown hgrow (by rw [World.size_alloc, World.size_alloc]; omega) (fun j hj => (HVA.out.lt j hj).1))
      have HV4 : Hid (w4.ownsRow w.heap.size 9 1 v' (k + 1) ((namL l (k + 1)).map Value.string)) := Lib.hid (by
        rw [HY.out, List.map_append]; exact hown')
      clear hown' hgrow
      go_wp2_with fail
      go_roundw
      case rel => exact ⟨k + 1, hlt, by go_num, HV4, HB4⟩
      case measure => simp [intOf]; omega
    · obtain rfl : k = l.length := by omega
      have e : namL l l.length = l.map (·.name) := by rw [namL, List.take_length]
      rw [e] at HV
      go_wp2_with fail
      go_ret
      refine ⟨_, rfl, ?_, HB.out⟩
      have h := HV.out
      exact h

/-- Is there an event at that place? -/
def hasI (n : Nat) (i : Int) : Bool := decide (0 ≤ i) && decide (i < (n : Int))
set_option maxHeartbeats 1000000 in
theorem has_fl (w : World) (A TA : Option Addr) (n c tn tc : Nat) (i : Int) :
    Calls Try.prog 85 #[.agg #[.slice A n c, .slice TA tn tc], .int .i64 i] w fun e w' => e = .returned (.bool (hasI n i)) ∧ w' = w.alloc (.cells #[.slice A n c, .slice TA tn tc] 32) := by
  unfold hasI
  by_cases h0 : 0 ≤ i
  · by_cases h1 : i < (n : Int)
    · rw [decide_eq_true h0, decide_eq_true h1]
      go_enter Try.func85, Try.ntmps85
      go_wp2
      go_ret
      exact ⟨rfl, rfl⟩
    · rw [decide_eq_true h0, decide_eq_false h1]
      go_enter Try.func85, Try.ntmps85
      go_wp2
      go_ret
      exact ⟨rfl, rfl⟩
  · rw [decide_eq_false h0]
    go_enter Try.func85, Try.ntmps85
    go_wp2
    go_ret
    exact ⟨rfl, rfl⟩
set_option maxHeartbeats 1000000 in
theorem between_fl (w : World) (A TA : Option Addr) (n c tn tc : Nat) (t : Ti) :
    Calls Try.prog 55 #[.agg #[.slice A n c, .slice TA tn tc], .agg #[.int .i64 t.kind, .int .i64 t.fr, .int .i64 t.to, .int .i64 t.time]] w fun e w' => e = .returned (.bool (hasI n t.fr && hasI n t.to)) ∧ Below w.heap.size w w' := by
  have H1 := fun W => Lib.hid (has_fl W A TA n c tn tc t.fr)
  have H2 := fun W => Lib.hid (has_fl W A TA n c tn tc t.to)
  go_enter Try.func55, Try.ntmps55
  go_wp2_with fail
  refine (H1 _).out.mono ?_
  rintro e w1 ⟨rfl, rfl⟩
  cases h1 : hasI n t.fr with
  | false =>
    go_wp2_with fail
    go_ret
    exact ⟨by rw [h1]; rfl, (((Below.refl _ w).alloc (Nat.le_refl _) _).alloc (by rw [World.size_alloc]; omega) _).alloc (by rw [World.size_alloc, World.size_alloc]; omega) _⟩
  | true =>
    go_wp2_with fail
    refine (H2 _).out.mono ?_
    rintro e w1 ⟨rfl, rfl⟩
    cases h2 : hasI n t.to with
    | false =>
      go_wp2_with fail
      go_ret
      exact ⟨by rw [h1, h2]; rfl, ((((Below.refl _ w).alloc (Nat.le_refl _) _).alloc (by rw [World.size_alloc]; omega) _).alloc (by rw [World.size_alloc, World.size_alloc]; omega) _).alloc (by rw [World.size_alloc, World.size_alloc, World.size_alloc]; omega) _⟩
    | true =>
      go_wp2_with fail
      go_ret
      exact ⟨by rw [h1, h2]; rfl, ((((Below.refl _ w).alloc (Nat.le_refl _) _).alloc (by rw [World.size_alloc]; omega) _).alloc (by rw [World.size_alloc, World.size_alloc]; omega) _).alloc (by rw [World.size_alloc, World.size_alloc, World.size_alloc]; omega) _⟩
set_option maxRecDepth 100000 in
set_option maxHeartbeats 2000000 in
theorem chosen_own (w : World) (EA A : Option Addr) (en ec c : Nat) (l : List Ti) (p : Ti → Bool) (fl : Nat) (rv : Value) (hr : Row w A (l.flatMap tiC)) (hl : l.length * 32 ≤ 140737488351232) (eg : ∀ args w, (callFunc fl args).run Try.prog w = .ok (.enter fl args) w)
    (hcall : ∀ (W : World) (t : Ti), Below w.heap.size w W → Calls Try.prog fl #[rv, .agg #[.int .i64 t.kind, .int .i64 t.fr, .int .i64 t.to, .int .i64 t.time]] W fun e W' => e = .returned (.bool (p t)) ∧ Below W.heap.size W W') :
    Calls Try.prog 54 #[.agg #[.slice EA en ec, .slice A l.length c], .func (.func fl) #[rv] #[]] w fun e w' => ∃ v, e = .returned v ∧ w'.ownsRow w.heap.size 49 4 v (l.filter p).length ((l.filter p).flatMap tiC) ∧ Below w.heap.size w w' := by
  obtain ⟨i0, hi0, hi1, hi2, hi3⟩ := info_parts info_ti'
  have HC := Lib.hid hcall
  have HR := Lib.hid hr
  clear hcall hr
  go_enter Try.func54, Try.ntmps54
  go_wp2_with fail
  go_loopw [5, 11] (fun v i wr => ∃ k : Nat, k ≤ l.length ∧ i = .int .i64 k ∧ Hid (wr.ownsRow w.heap.size 49 4 v (selL p l k).length ((selL p l k).flatMap tiC)) ∧ Hid (Below w.heap.size w wr)) (fun _ i _ => l.length - (intOf i).toNat)
  case atStart => exact ⟨0, Nat.zero_le _, rfl, Lib.hid (World.ownsRow_nil _ _ _ _), Lib.hid ((Below.refl _ _).alloc (Nat.le_refl _) _)⟩
  case round =>
    obtain ⟨k, hk, rfl, HV, HB⟩ := hrel
    have hB := HB.out.size
    by_cases hlt : k < l.length
    · obtain ⟨b, off, rfl, hb, hc⟩ := HR.out.at_ (k := 4) (fun _ => rfl) (by omega) hlt
      have k0 := hc 0 _ rfl
      have k1 := hc 1 _ rfl
      have k2 := hc 2 _ rfl
      have k3 := hc 3 _ rfl
      rw [Nat.add_zero] at k0
      rw [← HB.out.cell (p := ⟨b, _, none⟩) hb] at k0 k1 k2 k3
      have hk0 : (0 : Int) ≤ (k : Int) := Int.natCast_nonneg _
      have hk1 : (k : Int) < (l.length : Int) := by omega
      have hs := sel_len p l k
      obtain ⟨va, vc, rfl⟩ := own_slice HV.out
      have HY := fun h => Lib.hid (sel_yes (p := p) hlt h)
      have HN := fun h => Lib.hid (sel_no (p := p) hlt h)
      clear hc
      generalize l[k]! = t at *
      have hBA : Below w.heap.size w (wr.alloc (.cells #[.int .i64 t.kind, .int .i64 t.fr, .int .i64 t.to, .int .i64 t.time] 49)) := HB.out.alloc hB _
      have C := Lib.hid (HC.out _ t hBA)
      have hn := heap_new wr (.cells #[.int .i64 t.kind, .int .i64 t.fr, .int .i64 t.to, .int .i64 t.time] 49)
      go_wp2_with fail
      refine C.out.mono ?_
      rintro e w3 ⟨rfl, hb3⟩
      have hz3 := hb3.size
      rw [World.size_alloc] at hz3
      have hn3 := (hb3.block wr.heap.size (by rw [World.size_alloc]; omega)).trans hn
      have y0 : w3.cell? ⟨wr.heap.size, 0, none⟩ = some (.int .i64 t.kind) := cell_blk hn3 rfl
      have y1 : w3.cell? ⟨wr.heap.size, 1, none⟩ = some (.int .i64 t.fr) := cell_blk hn3 rfl
      have y2 : w3.cell? ⟨wr.heap.size, 2, none⟩ = some (.int .i64 t.to) := cell_blk hn3 rfl
      have y3 : w3.cell? ⟨wr.heap.size, 3, none⟩ = some (.int .i64 t.time) := cell_blk hn3 rfl
      have HB3 := Lib.hid (hBA.trans (hb3.mono (by rw [World.size_alloc]; omega)))
      have HV3 := Lib.hid (own_below (own_below HV.out ((Below.refl _ wr).alloc (Nat.le_refl _) (.cells #[.int .i64 t.kind, .int .i64 t.fr, .int .i64 t.to, .int .i64 t.time] 49))) hb3)
      clear C hn hn3 hb3 hBA k0 k1 k2 k3
      cases hp : p t with
      | false =>
        have e1 := (HN hp).out
        go_wp2_with fail
        go_roundw
        case rel => exact ⟨k + 1, hlt, by go_num, by rw [e1]; exact HV3, HB3⟩
        case measure => simp [intOf]; omega
      | true =>
        have e1 := (HY hp).out
        go_wp2_with (at_builtin; refine wpList_append_own _ rfl (.tmp 18) (.tmp 20) 30 rfl w.heap.size 49 i0 _ 4 32 Try.underlying30 hi0 hi1 hi2 hi3 rfl (by omega) _ _ _ rfl (HV3.out.alloc _) ⟨w3.heap.size, 0, none⟩ 1 1 (tiC t) rfl rfl ?c1 ?c2 ?c3 ?c4 ?c5 ?_)
        case c1 =>
          intro j u hj
          have hn := heap_new w3 (.cells #[.int .i64 t.kind, .int .i64 t.fr, .int .i64 t.to, .int .i64 t.time] 49)
          match j, hj with
          | 0, hj => cases hj; exact cell_blk hn rfl
          | 1, hj => cases hj; exact cell_blk hn rfl
          | 2, hj => cases hj; exact cell_blk hn rfl
          | 3, hj => cases hj; exact cell_blk hn rfl
        case c2 => intro u hu; simp [tiC] at hu; rcases hu with rfl | rfl | rfl | rfl <;> rfl
        case c3 => unfold maxLen; omega
        case c4 => omega
        case c5 => rw [World.size_alloc]; omega
        intro v' w4 hown' hgrow _
        have HB4 : Hid (Below w.heap.size w w4) := Lib.hid ((HB3.out.alloc (by omega) _).grown hgrow (by rw [World.size_alloc]; omega) (fun j hj => (HV3.out.lt j hj).1))
        have HV4 : Hid (w4.ownsRow w.heap.size 49 4 v' (selL p l (k + 1)).length ((selL p l (k + 1)).flatMap tiC)) := Lib.hid (by
          rw [e1, List.length_append, List.flatMap_append]
          have e8 : (List.flatMap tiC [t]) = tiC t := by simp
          rw [e8]; exact hown')
        clear hown' hgrow e1
        go_wp2_with fail
        go_roundw
        case rel => exact ⟨k + 1, hlt, by go_num, HV4, HB4⟩
        case measure => simp [intOf]; omega
    · obtain rfl : k = l.length := by omega
      have e : selL p l l.length = l.filter p := by rw [selL, List.take_length]
      rw [e] at HV
      go_wp2_with fail
      go_ret
      exact ⟨_, rfl, HV.out, HB.out⟩

end Go.Proofs.Ytplplkchibefjaa.F4
