/-
  Contracts of slices.Clone at groups, events, relations, users and texts.
-/
import Derived.Test.YtplplkchibefjaaGrY
namespace Go.Proofs.Ytplplkchibefjaa
open Go.RowKit Go.Shelf
theorem flat_one {α : Type} {enc : α → List Value} (h : ∀ x, ∀ u ∈ enc x, u.oneCell' = true) (l : List α) : ∀ u ∈ l.flatMap enc, u.oneCell' = true := by
  intro u hu
  obtain ⟨x, _, hx⟩ := List.mem_flatMap.1 hu
  exact h x u hx
theorem one_gp (x : Gp) : ∀ u ∈ gpC x, u.oneCell' = true := by intro u hu; simp [gpC] at hu; rcases hu with rfl | rfl <;> rfl
theorem info_gp : (Try.prog.info? 83).map (fun i => (i.zero, i.size, i.bytes)) = some (some (.agg #[.string ⟨#[]⟩, .string ⟨#[]⟩]), 2, 32) := by kernel_rfl
theorem one_ev (x : Ev) : ∀ u ∈ evC x, u.oneCell' = true := by intro u hu; simp [evC] at hu; rcases hu with rfl | rfl | rfl | rfl | rfl | rfl <;> rfl
theorem info_ev : (Try.prog.info? 46).map (fun i => (i.zero, i.size, i.bytes)) = some (some (.agg #[.string ⟨#[]⟩, .string ⟨#[]⟩, .string ⟨#[]⟩, .bool false, .bool false, .int .i64 0]), 6, 64) := by kernel_rfl
set_option maxHeartbeats 1000000 in
theorem clone_ev (A : Option Addr) (c : Nat) (l : List Ev) (w : World) (hr : Row w A (l.flatMap evC)) (hl : l.length * 64 ≤ 140737488351232) :
    Calls Try.prog 52 #[.slice A l.length c] w fun e w' => ∃ v, e = .returned v ∧ w'.ownsRow w.heap.size 46 6 v l.length (l.flatMap evC) ∧ Below w.heap.size w w' := by
  obtain ⟨i0, hi, hz0, hz1, hz2⟩ := info_parts info_ev
  have HI := Lib.hid hi
  have HZ0 := Lib.hid hz0
  have HZ1 := Lib.hid hz1
  have HZ2 := Lib.hid hz2
  have q : ∀ (w : World) (a : Option Addr) (n c n' c' : Nat), (binOp .eql 23 (.slice a n c) (.slice none n' c')).run Try.prog w = .ok (.bool a.isNone) w := fun w a n c n' c' => Lib.run_eql_slice_nil w _ _ a n c n' c' Try.underlying23
  have hfl := flat_len evC 6 (fun _ => rfl) l
  clear hi hz0 hz1 hz2
  cases A with
  | none =>
    have h0 : l = [] := by
      cases l with
      | nil => rfl
      | cons t r =>
        obtain ⟨b, off, e, _⟩ := hr (fun e => by rw [e] at hfl; simp at hfl)
        cases e
    subst h0
    clear hfl
    go_enter Try.func52, Try.ntmps52
    go_wp2
    go_ret
    exact ⟨_, rfl, World.ownsRow_nil _ _ _ _, Below.refl _ _⟩
  | some ad =>
    have hc' : ∀ j u, (l.flatMap evC)[j]? = some u → (w.alloc (.cells #[] 46)).cell? (ad.add j) = some u := by
      intro j u hu
      have hne : l.flatMap evC ≠ [] := fun e => by rw [e, List.getElem?_nil] at hu; cases hu
      obtain ⟨b, off, e, hb, hcell⟩ := hr hne
      obtain rfl : ad = ⟨b, off, none⟩ := Option.some.inj e
      rw [Addr.add_lit]
      exact (World.cell?_alloc_lt _ _ ⟨b, off + j, none⟩ hb).trans (hcell j u hu)
    have hc := Lib.hid hc'
    clear hc'
    have HFL := Lib.hid hfl
    have H1 := Lib.hid (flat_one one_ev l)
    clear hfl
    go_enter Try.func52, Try.ntmps52
    go_wp2_with (at_builtin; refine wpList_append_own _ rfl (.tmp 5) (.tmp 6) 23 rfl w.heap.size 46 i0 _ 6 64 Try.underlying23 HI.out HZ0.out HZ1.out HZ2.out rfl (by omega) _ _ _ rfl (World.ownsRow_made w #[] 0 (Nat.le_refl _) (Nat.zero_le _) (by simp)) ad l.length c (l.flatMap evC) rfl HFL.out ?c1 H1.out ?c3 ?c4 ?c5 ?_)
    case c1 => exact hc.out
    case c3 => unfold maxLen; omega
    case c4 => omega
    case c5 => simp
    intro v' w1 hown hgrow _
    go_wp2
    go_ret
    exact ⟨v', rfl, by simpa using hown, ((Below.refl _ w).alloc (Nat.le_refl _) _).grown hgrow (by simp) (by intro k hk; simp [Value.ownBlock] at hk; omega)⟩
theorem one_rl (x : Rl) : ∀ u ∈ rlC x, u.oneCell' = true := by intro u hu; simp [rlC] at hu; rcases hu with rfl | rfl | rfl | rfl <;> rfl
theorem info_rl : (Try.prog.info? 53).map (fun i => (i.zero, i.size, i.bytes)) = some (some (.agg #[.int .i64 0, .string ⟨#[]⟩, .string ⟨#[]⟩, .int .i64 0]), 4, 48) := by kernel_rfl
theorem one_us (x : Us) : ∀ u ∈ usC x, u.oneCell' = true := by intro u hu; simp [usC] at hu; rcases hu with rfl | rfl | rfl <;> rfl
theorem info_us : (Try.prog.info? 87).map (fun i => (i.zero, i.size, i.bytes)) = some (some (.agg #[.string ⟨#[]⟩, .slice none 0 0, .string ⟨#[]⟩]), 3, 56) := by kernel_rfl
theorem one_st (x : ByteArray) : ∀ u ∈ stC x, u.oneCell' = true := by intro u hu; simp [stC] at hu; subst hu; rfl
theorem info_st : (Try.prog.info? 9).map (fun i => (i.zero, i.size, i.bytes)) = some (some (.string ⟨#[]⟩), 1, 16) := by kernel_rfl
end Go.Proofs.Ytplplkchibefjaa
