/-
  Contracts of slices.Clone at groups, events, relations, users and texts.
-/
import Derived.Test.YtandfjahfbeaiaaGreatGrY
namespace Go.Proofs.YtandfjahfbeaiaaGreat
open Go.RowKit Go.Shelf
theorem flat_one {α : Type} {enc : α → List Value} (h : ∀ x, ∀ u ∈ enc x, u.oneCell' = true) (l : List α) : ∀ u ∈ l.flatMap enc, u.oneCell' = true := by
  intro u hu
  obtain ⟨x, _, hx⟩ := List.mem_flatMap.1 hu
  exact h x u hx
theorem one_gp (x : Gp) : ∀ u ∈ gpC x, u.oneCell' = true := by intro u hu; simp [gpC] at hu; rcases hu with rfl | rfl <;> rfl
theorem info_gp : (Tryz.prog.info? 39).map (fun i => (i.zero, i.size, i.bytes)) = some (some (.agg #[.string ⟨#[]⟩, .string ⟨#[]⟩]), 2, 32) := by kernel_rfl
set_option maxHeartbeats 1000000 in
theorem clone_gp (A : Option Addr) (c : Nat) (l : List Gp) (w : World) (hr : Row w A (l.flatMap gpC)) (hl : l.length * 32 ≤ 140737488351232) :
    Calls Tryz.prog 33 #[.slice A l.length c] w fun e w' => ∃ v, e = .returned v ∧ w'.ownsRow w.heap.size 39 2 v l.length (l.flatMap gpC) ∧ Below w.heap.size w w' := by
  obtain ⟨i0, hi, hz0, hz1, hz2⟩ := info_parts info_gp
  have HI := Lib.hid hi
  have HZ0 := Lib.hid hz0
  have HZ1 := Lib.hid hz1
  have HZ2 := Lib.hid hz2
  have q : ∀ (w : World) (a : Option Addr) (n c n' c' : Nat), (binOp .eql 22 (.slice a n c) (.slice none n' c')).run Tryz.prog w = .ok (.bool a.isNone) w := fun w a n c n' c' => Lib.run_eql_slice_nil w _ _ a n c n' c' Tryz.underlying22
  have hfl := flat_len gpC 2 (fun _ => rfl) l
  clear hi hz0 hz1 hz2
  cases A with
  | none =>
    have h0 : l = [] := by
      cases l with
      | nil => rfl
      | cons t r =>
        obtain ⟨b, off, e, _⟩ := hr (fun e => by rw [e] at hfl; simp at hfl)
        cases e
    subst h0
    clear hfl
    go_enter Tryz.func33, Tryz.ntmps33
    go_wp2
    go_ret
    exact ⟨_, rfl, World.ownsRow_nil _ _ _ _, Below.refl _ _⟩
  | some ad =>
    have hc' : ∀ j u, (l.flatMap gpC)[j]? = some u → (w.alloc (.cells #[] 39)).cell? (ad.add j) = some u := by
      intro j u hu
      have hne : l.flatMap gpC ≠ [] := fun e => by rw [e, List.getElem?_nil] at hu; cases hu
      obtain ⟨b, off, e, hb, hcell⟩ := hr hne
      obtain rfl : ad = ⟨b, off, none⟩ := Option.some.inj e
      rw [Addr.add_lit]
      exact (World.cell?_alloc_lt _ _ ⟨b, off + j, none⟩ hb).trans (hcell j u hu)
    have hc := Lib.hid hc'
    clear hc'
    have HFL := Lib.hid hfl
    have H1 := Lib.hid (flat_one one_gp l)
    clear hfl
    go_enter Tryz.func33, Tryz.ntmps33
    go_wp2_with (at_builtin; refine wpList_append_own _ rfl (.tmp 5) (.tmp 6) 22 rfl w.heap.size 39 i0 _ 2 32 Tryz.underlying22 HI.out HZ0.out HZ1.out HZ2.out rfl (by omega) _ _ _ rfl (World.ownsRow_made w #[] 0 (Nat.le_refl _) (Nat.zero_le _) (by simp)) ad l.length c (l.flatMap gpC) rfl HFL.out ?c1 H1.out ?c3 ?c4 ?c5 ?_)
    case c1 => exact hc.out
    case c3 => unfold maxLen; omega
    case c4 => omega
    case c5 => simp
    intro v' w1 hown hgrow _
    go_wp2
    go_ret
    exact ⟨v', rfl, by simpa using hown, ((Below.refl _ w).alloc (Nat.le_refl _) _).grown hgrow (by simp) (by intro k hk; simp [Value.ownBlock] at hk; omega)⟩
theorem one_ev (x : Ev) : ∀ u ∈ evC x, u.oneCell' = true := by intro u hu; simp [evC] at hu; rcases hu with rfl | rfl | rfl | rfl | rfl | rfl <;> rfl
theorem info_ev : (Tryz.prog.info? 41).map (fun i => (i.zero, i.size, i.bytes)) = some (some (.agg #[.string ⟨#[]⟩, .string ⟨#[]⟩, .string ⟨#[]⟩, .bool false, .bool false, .int .i64 0]), 6, 64) := by kernel_rfl
set_option maxHeartbeats 1000000 in
theorem clone_ev (A : Option Addr) (c : Nat) (l : List Ev) (w : World) (hr : Row w A (l.flatMap evC)) (hl : l.length * 64 ≤ 140737488351232) :
    Calls Tryz.prog 34 #[.slice A l.length c] w fun e w' => ∃ v, e = .returned v ∧ w'.ownsRow w.heap.size 41 6 v l.length (l.flatMap evC) ∧ Below w.heap.size w w' := by
  obtain ⟨i0, hi, hz0, hz1, hz2⟩ := info_parts info_ev
  have HI := Lib.hid hi
  have HZ0 := Lib.hid hz0
  have HZ1 := Lib.hid hz1
  have HZ2 := Lib.hid hz2
  have q : ∀ (w : World) (a : Option Addr) (n c n' c' : Nat), (binOp .eql 23 (.slice a n c) (.slice none n' c')).run Tryz.prog w = .ok (.bool a.isNone) w := fun w a n c n' c' => Lib.run_eql_slice_nil w _ _ a n c n' c' Tryz.underlying23
  have hfl := flat_len evC 6 (fun _ => rfl) l
  clear hi hz0 hz1 hz2
  cases A with
  | none =>
    have h0 : l = [] := by
      cases l with
      | nil => rfl
      | cons t r =>
        obtain ⟨b, off, e, _⟩ := hr (fun e => by rw [e] at hfl; simp at hfl)
        cases e
    subst h0
    clear hfl
    go_enter Tryz.func34, Tryz.ntmps34
    go_wp2
    go_ret
    exact ⟨_, rfl, World.ownsRow_nil _ _ _ _, Below.refl _ _⟩
  | some ad =>
    have hc' : ∀ j u, (l.flatMap evC)[j]? = some u → (w.alloc (.cells #[] 41)).cell? (ad.add j) = some u := by
      intro j u hu
      have hne : l.flatMap evC ≠ [] := fun e => by rw [e, List.getElem?_nil] at hu; cases hu
      obtain ⟨b, off, e, hb, hcell⟩ := hr hne
      obtain rfl : ad = ⟨b, off, none⟩ := Option.some.inj e
      rw [Addr.add_lit]
      exact (World.cell?_alloc_lt _ _ ⟨b, off + j, none⟩ hb).trans (hcell j u hu)
    have hc := Lib.hid hc'
    clear hc'
    have HFL := Lib.hid hfl
    have H1 := Lib.hid (flat_one one_ev l)
    clear hfl
    go_enter Tryz.func34, Tryz.ntmps34
    go_wp2_with (at_builtin; refine wpList_append_own _ rfl (.tmp 5) (.tmp 6) 23 rfl w.heap.size 41 i0 _ 6 64 Tryz.underlying23 HI.out HZ0.out HZ1.out HZ2.out rfl (by omega) _ _ _ rfl (World.ownsRow_made w #[] 0 (Nat.le_refl _) (Nat.zero_le _) (by simp)) ad l.length c (l.flatMap evC) rfl HFL.out ?c1 H1.out ?c3 ?c4 ?c5 ?_)
    case c1 => exact hc.out
    case c3 => unfold maxLen; omega
    case c4 => omega
    case c5 => simp
    intro v' w1 hown hgrow _
    go_wp2
    go_ret
    exact ⟨v', rfl, by simpa using hown, ((Below.refl _ w).alloc (Nat.le_refl _) _).grown hgrow (by simp) (by intro k hk; simp [Value.ownBlock] at hk; omega)⟩
theorem one_rl (x : Rl) : ∀ u ∈ rlC x, u.oneCell' = true := by intro u hu; simp [rlC] at hu; rcases hu with rfl | rfl | rfl | rfl <;> rfl
theorem info_rl : (Tryz.prog.info? 43).map (fun i => (i.zero, i.size, i.bytes)) = some (some (.agg #[.int .i64 0, .string ⟨#[]⟩, .string ⟨#[]⟩, .int .i64 0]), 4, 48) := by kernel_rfl
set_option maxHeartbeats 1000000 in
theorem clone_rl (A : Option Addr) (c : Nat) (l : List Rl) (w : World) (hr : Row w A (l.flatMap rlC)) (hl : l.length * 48 ≤ 140737488351232) :
    Calls Tryz.prog 35 #[.slice A l.length c] w fun e w' => ∃ v, e = .returned v ∧ w'.ownsRow w.heap.size 43 4 v l.length (l.flatMap rlC) ∧ Below w.heap.size w w' := by
  obtain ⟨i0, hi, hz0, hz1, hz2⟩ := info_parts info_rl
  have HI := Lib.hid hi
  have HZ0 := Lib.hid hz0
  have HZ1 := Lib.hid hz1
  have HZ2 := Lib.hid hz2
  have q : ∀ (w : World) (a : Option Addr) (n c n' c' : Nat), (binOp .eql 24 (.slice a n c) (.slice none n' c')).run Tryz.prog w = .ok (.bool a.isNone) w := fun w a n c n' c' => Lib.run_eql_slice_nil w _ _ a n c n' c' Tryz.underlying24
  have hfl := flat_len rlC 4 (fun _ => rfl) l
  clear hi hz0 hz1 hz2
  cases A with
  | none =>
    have h0 : l = [] := by
      cases l with
      | nil => rfl
      | cons t r =>
        obtain ⟨b, off, e, _⟩ := hr (fun e => by rw [e] at hfl; simp at hfl)
        cases e
    subst h0
    clear hfl
    go_enter Tryz.func35, Tryz.ntmps35
    go_wp2
    go_ret
    exact ⟨_, rfl, World.ownsRow_nil _ _ _ _, Below.refl _ _⟩
  | some ad =>
    have hc' : ∀ j u, (l.flatMap rlC)[j]? = some u → (w.alloc (.cells #[] 43)).cell? (ad.add j) = some u := by
      intro j u hu
      have hne : l.flatMap rlC ≠ [] := fun e => by rw [e, List.getElem?_nil] at hu; cases hu
      obtain ⟨b, off, e, hb, hcell⟩ := hr hne
      obtain rfl : ad = ⟨b, off, none⟩ := Option.some.inj e
      rw [Addr.add_lit]
      exact (World.cell?_alloc_lt _ _ ⟨b, off + j, none⟩ hb).trans (hcell j u hu)
    have hc := Lib.hid hc'
    clear hc'
    have HFL := Lib.hid hfl
    have H1 := Lib.hid (flat_one one_rl l)
    clear hfl
    go_enter Tryz.func35, Tryz.ntmps35
    go_wp2_with (at_builtin; refine wpList_append_own _ rfl (.tmp 5) (.tmp 6) 24 rfl w.heap.size 43 i0 _ 4 48 Tryz.underlying24 HI.out HZ0.out HZ1.out HZ2.out rfl (by omega) _ _ _ rfl (World.ownsRow_made w #[] 0 (Nat.le_refl _) (Nat.zero_le _) (by simp)) ad l.length c (l.flatMap rlC) rfl HFL.out ?c1 H1.out ?c3 ?c4 ?c5 ?_)
    case c1 => exact hc.out
    case c3 => unfold maxLen; omega
    case c4 => omega
    case c5 => simp
    intro v' w1 hown hgrow _
    go_wp2
    go_ret
    exact ⟨v', rfl, by simpa using hown, ((Below.refl _ w).alloc (Nat.le_refl _) _).grown hgrow (by simp) (by intro k hk; simp [Value.ownBlock] at hk; omega)⟩
theorem one_us (x : Us) : ∀ u ∈ usC x, u.oneCell' = true := by intro u hu; simp [usC] at hu; rcases hu with rfl | rfl | rfl <;> rfl
theorem info_us : (Tryz.prog.info? 45).map (fun i => (i.zero, i.size, i.bytes)) = some (some (.agg #[.string ⟨#[]⟩, .slice none 0 0, .string ⟨#[]⟩]), 3, 56) := by kernel_rfl
set_option maxHeartbeats 1000000 in
theorem clone_us (A : Option Addr) (c : Nat) (l : List Us) (w : World) (hr : Row w A (l.flatMap usC)) (hl : l.length * 56 ≤ 140737488351232) :
    Calls Tryz.prog 36 #[.slice A l.length c] w fun e w' => ∃ v, e = .returned v ∧ w'.ownsRow w.heap.size 45 3 v l.length (l.flatMap usC) ∧ Below w.heap.size w w' := by
  obtain ⟨i0, hi, hz0, hz1, hz2⟩ := info_parts info_us
  have HI := Lib.hid hi
  have HZ0 := Lib.hid hz0
  have HZ1 := Lib.hid hz1
  have HZ2 := Lib.hid hz2
  have q : ∀ (w : World) (a : Option Addr) (n c n' c' : Nat), (binOp .eql 25 (.slice a n c) (.slice none n' c')).run Tryz.prog w = .ok (.bool a.isNone) w := fun w a n c n' c' => Lib.run_eql_slice_nil w _ _ a n c n' c' Tryz.underlying25
  have hfl := flat_len usC 3 (fun _ => rfl) l
  clear hi hz0 hz1 hz2
  cases A with
  | none =>
    have h0 : l = [] := by
      cases l with
      | nil => rfl
      | cons t r =>
        obtain ⟨b, off, e, _⟩ := hr (fun e => by rw [e] at hfl; simp at hfl)
        cases e
    subst h0
    clear hfl
    go_enter Tryz.func36, Tryz.ntmps36
    go_wp2
    go_ret
    exact ⟨_, rfl, World.ownsRow_nil _ _ _ _, Below.refl _ _⟩
  | some ad =>
    have hc' : ∀ j u, (l.flatMap usC)[j]? = some u → (w.alloc (.cells #[] 45)).cell? (ad.add j) = some u := by
      intro j u hu
      have hne : l.flatMap usC ≠ [] := fun e => by rw [e, List.getElem?_nil] at hu; cases hu
      obtain ⟨b, off, e, hb, hcell⟩ := hr hne
      obtain rfl : ad = ⟨b, off, none⟩ := Option.some.inj e
      rw [Addr.add_lit]
      exact (World.cell?_alloc_lt _ _ ⟨b, off + j, none⟩ hb).trans (hcell j u hu)
    have hc := Lib.hid hc'
    clear hc'
    have HFL := Lib.hid hfl
    have H1 := Lib.hid (flat_one one_us l)
    clear hfl
    go_enter Tryz.func36, Tryz.ntmps36
    go_wp2_with (at_builtin; refine wpList_append_own _ rfl (.tmp 5) (.tmp 6) 25 rfl w.heap.size 45 i0 _ 3 56 Tryz.underlying25 HI.out HZ0.out HZ1.out HZ2.out rfl (by omega) _ _ _ rfl (World.ownsRow_made w #[] 0 (Nat.le_refl _) (Nat.zero_le _) (by simp)) ad l.length c (l.flatMap usC) rfl HFL.out ?c1 H1.out ?c3 ?c4 ?c5 ?_)
    case c1 => exact hc.out
    case c3 => unfold maxLen; omega
    case c4 => omega
    case c5 => simp
    intro v' w1 hown hgrow _
    go_wp2
    go_ret
    exact ⟨v', rfl, by simpa using hown, ((Below.refl _ w).alloc (Nat.le_refl _) _).grown hgrow (by simp) (by intro k hk; simp [Value.ownBlock] at hk; omega)⟩
theorem one_st (x : ByteArray) : ∀ u ∈ stC x, u.oneCell' = true := by intro u hu; simp [stC] at hu; subst hu; rfl
theorem info_st : (Tryz.prog.info? 9).map (fun i => (i.zero, i.size, i.bytes)) = some (some (.string ⟨#[]⟩), 1, 16) := by kernel_rfl
set_option maxHeartbeats 1000000 in
theorem clone_st (A : Option Addr) (c : Nat) (l : List ByteArray) (w : World) (hr : Row w A (l.flatMap stC)) (hl : l.length * 16 ≤ 140737488351232) :
    Calls Tryz.prog 37 #[.slice A l.length c] w fun e w' => ∃ v, e = .returned v ∧ w'.ownsRow w.heap.size 9 1 v l.length (l.flatMap stC) ∧ Below w.heap.size w w' := by
  obtain ⟨i0, hi, hz0, hz1, hz2⟩ := info_parts info_st
  have HI := Lib.hid hi
  have HZ0 := Lib.hid hz0
  have HZ1 := Lib.hid hz1
  have HZ2 := Lib.hid hz2
  have q : ∀ (w : World) (a : Option Addr) (n c n' c' : Nat), (binOp .eql 34 (.slice a n c) (.slice none n' c')).run Tryz.prog w = .ok (.bool a.isNone) w := fun w a n c n' c' => Lib.run_eql_slice_nil w _ _ a n c n' c' Tryz.underlying34
  have hfl := flat_len stC 1 (fun _ => rfl) l
  clear hi hz0 hz1 hz2
  cases A with
  | none =>
    have h0 : l = [] := by
      cases l with
      | nil => rfl
      | cons t r =>
        obtain ⟨b, off, e, _⟩ := hr (fun e => by rw [e] at hfl; simp at hfl)
        cases e
    subst h0
    clear hfl
    go_enter Tryz.func37, Tryz.ntmps37
    go_wp2
    go_ret
    exact ⟨_, rfl, World.ownsRow_nil _ _ _ _, Below.refl _ _⟩
  | some ad =>
    have hc' : ∀ j u, (l.flatMap stC)[j]? = some u → (w.alloc (.cells #[] 9)).cell? (ad.add j) = some u := by
      intro j u hu
      have hne : l.flatMap stC ≠ [] := fun e => by rw [e, List.getElem?_nil] at hu; cases hu
      obtain ⟨b, off, e, hb, hcell⟩ := hr hne
      obtain rfl : ad = ⟨b, off, none⟩ := Option.some.inj e
      rw [Addr.add_lit]
      exact (World.cell?_alloc_lt _ _ ⟨b, off + j, none⟩ hb).trans (hcell j u hu)
    have hc := Lib.hid hc'
    clear hc'
    have HFL := Lib.hid hfl
    have H1 := Lib.hid (flat_one one_st l)
    clear hfl
    go_enter Tryz.func37, Tryz.ntmps37
    go_wp2_with (at_builtin; refine wpList_append_own _ rfl (.tmp 5) (.tmp 6) 34 rfl w.heap.size 9 i0 _ 1 16 Tryz.underlying34 HI.out HZ0.out HZ1.out HZ2.out rfl (by omega) _ _ _ rfl (World.ownsRow_made w #[] 0 (Nat.le_refl _) (Nat.zero_le _) (by simp)) ad l.length c (l.flatMap stC) rfl HFL.out ?c1 H1.out ?c3 ?c4 ?c5 ?_)
    case c1 => exact hc.out
    case c3 => unfold maxLen; omega
    case c4 => omega
    case c5 => simp
    intro v' w1 hown hgrow _
    go_wp2
    go_ret
    exact ⟨v', rfl, by simpa using hown, ((Below.refl _ w).alloc (Nat.le_refl _) _).grown hgrow (by simp) (by intro k hk; simp [Value.ownBlock] at hk; omega)⟩
end Go.Proofs.YtandfjahfbeaiaaGreat
