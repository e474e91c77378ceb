/-
  A store in memory; contracts of fuse.tears, Store.reach, Down, Writes, Blocks, Up, Fuse, New, Read.
-/
import Derived.Test.YtcipgjelbnmdiaaSoA
namespace Go.Proofs.Ytcipgjelbnmdiaa.ST
open Go.RowKit Go.Shelf Go.Proofs.Ytcipgjelbnmdiaa.B
attribute [local go_sem] Oper.semAt_some

/-- What a store tells besides its blocks. -/
structure Fs where
  f : Fz
  down : Bool
  wr : Int
def boC (g n c : Nat) (f : Fs) : Array Value := #[.slice (some ⟨g, 0, none⟩) n c, .bool f.f.is, .int .i64 f.f.wh, .int .i64 f.f.pr, .bool f.down, .int .i64 f.wr]
/-- A store in memory. -/
structure SB (w : World) (sb g c : Nat) (L : List Bk) (f : Fs) : Prop where
  box : w.heap[sb]? = some (.cells (boC g L.length c f) 97 (0, 0))
  row : ∃ ex, w.heap[g]? = some (.cells (L.flatMap bc ++ ex).toArray 100 (0, 0))
  len : ∀ b ∈ L, b.length = 32
  few : 1 ≤ L.length ∧ L.length ≤ 256
  wh : 0 ≤ f.f.wh ∧ f.f.wh ≤ 9223372036854775807
  pr : 0 ≤ f.f.pr ∧ f.f.pr ≤ 32
/-- All but two blocks is as it was. -/
structure K2 (a b : Nat) (w w' : World) : Prop where
  os : w'.os = w.os
  tape : w'.tape = w.tape
  output : w'.output = w.output
  size : w.heap.size ≤ w'.heap.size
  block : ∀ k, k < w.heap.size → k ≠ a → k ≠ b → w'.heap[k]? = w.heap[k]?
theorem K2.refl (a b : Nat) (w : World) : K2 a b w w := ⟨rfl, rfl, rfl, Nat.le_refl _, fun _ _ _ _ => rfl⟩
theorem K2.trans {a b : Nat} {w w' w'' : World} (h : K2 a b w w') (h2 : K2 a b w' w'') : K2 a b w w'' :=
  ⟨h2.os.trans h.os, h2.tape.trans h.tape, h2.output.trans h.output, Nat.le_trans h.size h2.size, fun k hk ha hb => (h2.block k (Nat.lt_of_lt_of_le hk h.size) ha hb).trans (h.block k hk ha hb)⟩
theorem K2.of {a b : Nat} {w w' : World} (h : Below w.heap.size w w') : K2 a b w w' := ⟨h.os, h.tape, h.output, h.size, fun k hk _ _ => h.block k hk⟩
theorem K2.drew {a b : Nat} {w w' : World} (h : K2 a b w w') : K2 a b w w'.drew := ⟨h.os, h.tape, h.output, h.size, h.block⟩
theorem K2.setCell {a b : Nat} {w w' : World} (h : K2 a b w w') (p : Addr) (v : Value) (hp : p.block = a ∨ p.block = b) : K2 a b w (w'.setCell p v) :=
  ⟨h.os, h.tape, h.output, by rw [World.size_setCell]; exact h.size, fun k hk ha hb => (Below.heap_setCell _ _ _ _ (fun e => by rcases hp with hp | hp <;> omega)).trans (h.block k hk ha hb)⟩
theorem K2.below {a b B : Nat} {w0 w w' : World} (h : K2 a b w w') (hb : Below B w0 w) (ha : B ≤ a) (hb2 : B ≤ b) (hB : B ≤ w.heap.size) : Below B w0 w' :=
  hb.trans ⟨h.os, h.tape, h.output, h.size, fun k hk => h.block k (by omega) (by omega) (by omega)⟩
theorem SB.lt {w : World} {sb g c : Nat} {L : List Bk} {f : Fs} (h : SB w sb g c L f) : sb < w.heap.size := blk_lt h.box
theorem SB.ltg {w : World} {sb g c : Nat} {L : List Bk} {f : Fs} (h : SB w sb g c L f) : g < w.heap.size := by obtain ⟨ex, hx⟩ := h.row; exact blk_lt hx
theorem SB.ne {w : World} {sb g c : Nat} {L : List Bk} {f : Fs} (h : SB w sb g c L f) : sb ≠ g := fun e => by
  obtain ⟨ex, hx⟩ := h.row
  have := h.box
  rw [e, hx] at this
  simp only [Option.some.injEq, Obj.cells.injEq] at this
  exact absurd this.2.1 (by decide)
theorem SB.keep {w w' : World} {sb g c : Nat} {L : List Bk} {f : Fs} (h : SB w sb g c L f) (h1 : w'.heap[sb]? = w.heap[sb]?) (h2 : w'.heap[g]? = w.heap[g]?) : SB w' sb g c L f where
  box := h1.trans h.box
  row := by obtain ⟨ex, hx⟩ := h.row; exact ⟨ex, h2.trans hx⟩
  len := h.len
  few := h.few
  wh := h.wh
  pr := h.pr
theorem SB.below {w w' : World} {sb g c : Nat} {L : List Bk} {f : Fs} (h : SB w sb g c L f) (hb : Below w.heap.size w w') : SB w' sb g c L f := h.keep (hb.block _ h.lt) (hb.block _ h.ltg)
theorem SB.drew {w : World} {sb g c : Nat} {L : List Bk} {f : Fs} (h : SB w sb g c L f) : SB w.drew sb g c L f := h.keep rfl rfl
/-- Another store's call leaves it. -/
theorem SB.other {w w' : World} {sb g c a b : Nat} {L : List Bk} {f : Fs} (h : SB w sb g c L f) (hk : K2 a b w w') (h1 : sb ≠ a) (h2 : sb ≠ b) (h3 : g ≠ a) (h4 : g ≠ b) : SB w' sb g c L f :=
  h.keep (hk.block _ h.lt h1 h2) (hk.block _ h.ltg h3 h4)
theorem SB.box' {w w' : World} {sb g c : Nat} {L : List Bk} {f f' : Fs} (h : SB w sb g c L f) (h1 : w'.heap[sb]? = some (.cells (boC g L.length c f') 97 (0, 0))) (h2 : w'.heap[g]? = w.heap[g]?) (h3 : 0 ≤ f'.f.wh ∧ f'.f.wh ≤ 9223372036854775807) (h4 : 0 ≤ f'.f.pr ∧ f'.f.pr ≤ 32) : SB w' sb g c L f' where
  box := h1
  row := by obtain ⟨ex, hx⟩ := h.row; exact ⟨ex, h2.trans hx⟩
  len := h.len
  few := h.few
  wh := h3
  pr := h4
/-- One field is stored. -/
theorem SB.set {w : World} {sb g c : Nat} {L : List Bk} {f f' : Fs} (h : SB w sb g c L f) (i : Nat) (v : Value) (e : (boC g L.length c f).setIfInBounds i v = boC g L.length c f') (h3 : 0 ≤ f'.f.wh ∧ f'.f.wh ≤ 9223372036854775807) (h4 : 0 ≤ f'.f.pr ∧ f'.f.pr ≤ 32) :
    SB (w.setCell ⟨sb, i, none⟩ v) sb g c L f' := by
  have := blk_set (i := i) (v := v) h.box
  rw [e] at this
  exact h.box' this (blk_other (Ne.symm h.ne)) h3 h4
theorem SB.cells {w : World} {sb g c : Nat} {L : List Bk} {f : Fs} (h : SB w sb g c L f) : w.cell? ⟨sb, 0, none⟩ = some (.slice (some ⟨g, 0, none⟩) L.length c) ∧ w.cell? ⟨sb, 1, none⟩ = some (.bool f.f.is) ∧ w.cell? ⟨sb, 2, none⟩ = some (.int .i64 f.f.wh) ∧ w.cell? ⟨sb, 3, none⟩ = some (.int .i64 f.f.pr) ∧ w.cell? ⟨sb, 4, none⟩ = some (.bool f.down) ∧ w.cell? ⟨sb, 5, none⟩ = some (.int .i64 f.wr) :=
  ⟨cell_blk (i := 0) h.box rfl, cell_blk (i := 1) h.box rfl, cell_blk (i := 2) h.box rfl, cell_blk (i := 3) h.box rfl, cell_blk (i := 4) h.box rfl, cell_blk (i := 5) h.box rfl⟩
theorem SB.free {w : World} {sb g c : Nat} {L : List Bk} {f : Fs} (h : SB w sb g c L f) (i : Nat) : w.frozen? ⟨sb, i, none⟩ = false := frozen_blk h.box
theorem flat_seg {L : List Bk} (hl : ∀ b ∈ L, b.length = 32) : ∀ {i : Nat}, i < L.length → ∀ (ex : List Value) (j : Nat) (v : Value), (bc L[i]!)[j]? = some v → (L.flatMap bc ++ ex)[i * 32 + j]? = some v := by
  induction L with
  | nil => intro i h; simp at h
  | cons b r ih =>
    intro i h ex j v hv
    have hb := hl b (by simp)
    cases i with
    | zero =>
      have hj : j < (bc b).length := (List.getElem?_eq_some_iff.1 hv).1
      rw [List.flatMap_cons, List.append_assoc, Nat.zero_mul, Nat.zero_add, List.getElem?_append_left hj]
      exact hv
    | succ i =>
      have hi : i < r.length := by simpa using h
      have e : (b :: r)[i + 1]! = r[i]! := by rw [getElem!_pos _ (i + 1) h, getElem!_pos r i hi]; rfl
      rw [e] at hv
      rw [List.flatMap_cons, List.append_assoc, List.getElem?_append_right (by rw [bc_len, hb]; omega), bc_len, hb, show (i + 1) * 32 + j - 32 = i * 32 + j by omega]
      exact ih (fun b' hb' => hl b' (by simp [hb'])) hi ex j v hv
/-- A block's cells. -/
theorem SB.seg {w : World} {sb g c : Nat} {L : List Bk} {f : Fs} (h : SB w sb g c L f) {i : Nat} (hi : i < L.length) : w.rangeAt g (i * 32) (bc L[i]!) := fun j v hv => by
  obtain ⟨ex, hx⟩ := h.row
  rw [cell_of_row w g _ _ _ _ hx]
  simpa using flat_seg h.len hi ex j v hv
theorem SB.at_len {w : World} {sb g c : Nat} {L : List Bk} {f : Fs} (h : SB w sb g c L f) {i : Nat} (hi : i < L.length) : L[i]!.length = 32 := h.len _ (mem_at hi)
def tearB (f : Fz) : Bool := f.is && f.wh == 0
def tickF (f : Fz) : Fz := if f.is then (if f.wh = 0 then f else ⟨f.is, f.wh - 1, f.pr⟩) else f
set_option maxRecDepth 100000 in
set_option maxHeartbeats 1000000 in
theorem tears_any (w : World) (sb g c : Nat) (L : List Bk) (f : Fs) (h : SB w sb g c L f) :
    Calls Try.prog 52 #[.pointer (some ⟨sb, 1, none⟩)] w fun e w' => e = .returned (.bool (tearB f.f)) ∧ SB w' sb g c L ⟨tickF f.f, f.down, f.wr⟩ ∧ K2 sb g w w' := by
  obtain ⟨⟨is, wh, pr⟩, down, wr⟩ := f
  obtain ⟨-, c1, c2, -⟩ := h.cells
  simp only at c1 c2
  have f2 := h.free 2
  have hl := h.lt
  have hw := h.wh
  simp only at hw
  have hw0 := hw.1
  have hw1 := hw.2
  have H := Lib.hid h
  clear h hw
  cases is with
  | false =>
    have e : tickF ⟨false, wh, pr⟩ = ⟨false, wh, pr⟩ := rfl
    rw [e]
    clear e
    go_enter Try.func52, Try.ntmps52
    go_wp2_with fail
    go_ret
    exact ⟨rfl, H.out, K2.refl _ _ _⟩
  | true =>
    by_cases h0 : wh = 0
    · subst h0
      have e : tickF ⟨true, 0, pr⟩ = ⟨true, 0, pr⟩ := rfl
      rw [e]
      clear e
      go_enter Try.func52, Try.ntmps52
      go_wp2_with fail
      go_ret
      exact ⟨rfl, H.out, K2.refl _ _ _⟩
    · have e : tickF ⟨true, wh, pr⟩ = ⟨true, wh - 1, pr⟩ := by unfold tickF; rw [if_pos rfl, if_neg h0]
      rw [e]
      clear e
      have hb : (wh == 0) = false := by rw [beq_eq_false_iff_ne]; exact h0
      have ht : tearB ⟨true, wh, pr⟩ = false := by unfold tearB; rw [hb]; rfl
      rw [ht]
      clear ht
      have HS : Hid (SB (w.setCell ⟨sb, 2, none⟩ (.int .i64 (wh - 1))) sb g c L ⟨⟨true, wh - 1, pr⟩, down, wr⟩) := Lib.hid (H.out.set 2 _ rfl ⟨show 0 ≤ wh - 1 by omega, show wh - 1 ≤ _ by omega⟩ H.out.pr)
      go_enter Try.func52, Try.ntmps52
      go_wp2_with fail
      go_ret
      exact ⟨rfl, HS.out, (K2.refl _ _ _).setCell _ _ (.inl rfl)⟩
/-- Why a block can't be reached. -/
def reachE (n : Nat) (d : Bool) (i : Int) : Int := if d then 16 else if i < 0 ∨ (n : Int) ≤ i then 3 else 0
set_option maxRecDepth 100000 in
set_option maxHeartbeats 1000000 in
theorem reach_any (w : World) (sb g c : Nat) (L : List Bk) (f : Fs) (h : SB w sb g c L f) (i : Int) :
    Calls Try.prog 51 #[pt sb, .int .i64 i] w fun e w' => e = .returned (.int .i64 (reachE L.length f.down i)) ∧ w = w' := by
  obtain ⟨f0, down, wr⟩ := f
  obtain ⟨c0, -, -, -, c4, -⟩ := h.cells
  simp only at c4
  have hl := h.lt
  clear h
  generalize L.length = n at *
  cases down with
  | true =>
    have e : reachE n true i = 16 := rfl
    rw [e]
    clear e
    go_enter Try.func51, Try.ntmps51
    go_wp2_with fail
    go_ret
    exact ⟨rfl, rfl⟩
  | false =>
    by_cases hi : i < 0
    · have e : reachE n false i = 3 := by unfold reachE; rw [if_neg (by decide), if_pos (.inl hi)]
      rw [e]
      clear e
      go_enter Try.func51, Try.ntmps51
      go_wp2_with fail
      go_ret
      exact ⟨rfl, rfl⟩
    · by_cases hj : (n : Int) ≤ i
      · have e : reachE n false i = 3 := by unfold reachE; rw [if_neg (by decide), if_pos (.inr hj)]
        rw [e]
        clear e
        go_enter Try.func51, Try.ntmps51
        go_wp2_with fail
        go_ret
        exact ⟨rfl, rfl⟩
      · have e : reachE n false i = 0 := by unfold reachE; rw [if_neg (by decide), if_neg (by omega)]
        rw [e]
        clear e
        go_enter Try.func51, Try.ntmps51
        go_wp2_with fail
        go_ret
        exact ⟨rfl, rfl⟩
set_option maxHeartbeats 400000 in
theorem down_any (w : World) (sb g c : Nat) (L : List Bk) (f : Fs) (h : SB w sb g c L f) : Calls Try.prog 37 #[pt sb] w fun e w' => e = .returned (.bool f.down) ∧ w = w' := by
  obtain ⟨-, -, -, -, c4, -⟩ := h.cells
  have hl := h.lt
  clear h
  generalize f.down = d at *
  go_enter Try.func37, Try.ntmps37
  go_wp2_with fail
  go_ret
  exact ⟨rfl, rfl⟩
set_option maxHeartbeats 400000 in
theorem writes_any (w : World) (sb g c : Nat) (L : List Bk) (f : Fs) (h : SB w sb g c L f) : Calls Try.prog 38 #[pt sb] w fun e w' => e = .returned (.int .i64 f.wr) ∧ w = w' := by
  obtain ⟨-, -, -, -, -, c5⟩ := h.cells
  have hl := h.lt
  clear h
  generalize f.wr = d at *
  go_enter Try.func38, Try.ntmps38
  go_wp2_with fail
  go_ret
  exact ⟨rfl, rfl⟩
set_option maxHeartbeats 400000 in
theorem blocks_any (w : World) (sb g c : Nat) (L : List Bk) (f : Fs) (h : SB w sb g c L f) : Calls Try.prog 39 #[pt sb] w fun e w' => e = .returned (.int .i64 (L.length : Int)) ∧ w = w' := by
  obtain ⟨c0, -⟩ := h.cells
  have hl := h.lt
  clear h
  go_enter Try.func39, Try.ntmps39
  go_wp2_with fail
  go_ret
  exact ⟨rfl, rfl⟩
set_option maxRecDepth 100000 in
set_option maxHeartbeats 1000000 in
theorem up_any (w : World) (sb g c : Nat) (L : List Bk) (f : Fs) (h : SB w sb g c L f) : Calls Try.prog 33 #[pt sb] w fun e w' => e = .returned (.tuple #[]) ∧ SB w' sb g c L ⟨⟨false, 0, 0⟩, false, f.wr⟩ ∧ K2 sb g w w' := by
  obtain ⟨⟨is, wh, pr⟩, down, wr⟩ := f
  obtain ⟨-, c1, c2, c3, c4, -⟩ := h.cells
  simp only at c1 c2 c3 c4
  have f1 := h.free 1
  have f2 := h.free 2
  have f3 := h.free 3
  have f4 := h.free 4
  have hl := h.lt
  have H := Lib.hid h
  clear h
  go_enter Try.func33, Try.ntmps33
  go_wp2_with fail
  go_end0
  exact ⟨rfl, (((H.out.set (f' := ⟨⟨is, wh, pr⟩, false, wr⟩) 4 _ rfl H.out.wh H.out.pr).set (f' := ⟨⟨false, wh, pr⟩, false, wr⟩) 1 _ rfl H.out.wh H.out.pr).set (f' := ⟨⟨false, 0, pr⟩, false, wr⟩) 2 _ rfl ⟨Int.le_refl _, show (0 : Int) ≤ 9223372036854775807 by decide⟩ H.out.pr).set 3 _ rfl ⟨Int.le_refl _, show (0 : Int) ≤ 9223372036854775807 by decide⟩ ⟨Int.le_refl _, show (0 : Int) ≤ 32 by decide⟩,
    ((((K2.refl sb g w).setCell ⟨sb, 4, none⟩ _ (.inl rfl)).setCell ⟨sb, 1, none⟩ _ (.inl rfl)).setCell ⟨sb, 2, none⟩ _ (.inl rfl)).setCell ⟨sb, 3, none⟩ _ (.inl rfl)⟩
theorem mkF_ok (n p : Int) (hn : n ≤ 9223372036854775807) : (0 ≤ (mkF n p).wh ∧ (mkF n p).wh ≤ 9223372036854775807) ∧ 0 ≤ (mkF n p).pr ∧ (mkF n p).pr ≤ 32 := by
  unfold mkF
  split
  · exact ⟨⟨Int.le_refl _, show (0 : Int) ≤ 9223372036854775807 by decide⟩, Int.le_refl _, show (0 : Int) ≤ 32 by decide⟩
  · refine ⟨⟨show 0 ≤ n by omega, show n ≤ _ by omega⟩, show 0 ≤ max p 0 % 33 by omega, show max p 0 % 33 ≤ 32 by omega⟩
set_option maxRecDepth 100000 in
set_option maxHeartbeats 1000000 in
theorem fuse_any (w : World) (sb g c : Nat) (L : List Bk) (f : Fs) (h : SB w sb g c L f) (n p : Int) (hn : n ≤ 9223372036854775807) (hp : -9223372036854775808 ≤ p ∧ p ≤ 9223372036854775807) :
    Calls Try.prog 31 #[pt sb, .int .i64 n, .int .i64 p] w fun e w' => e = .returned (.tuple #[]) ∧ SB w' sb g c L ⟨mkF n p, f.down, f.wr⟩ ∧ K2 sb g w w' := by
  obtain ⟨⟨is, wh, pr⟩, down, wr⟩ := f
  have C := Lib.hid (newfuse_any w n p hp)
  have H := Lib.hid h
  clear h
  go_enter Try.func31, Try.ntmps31
  go_wp2_with fail
  refine C.out.mono ?_
  rintro e w1 ⟨rfl, hb⟩
  have h1 := H.out.below hb
  obtain ⟨-, c1, c2, c3, c4, -⟩ := h1.cells
  simp only at c1 c2 c3 c4
  have f1 := h1.free 1
  have f2 := h1.free 2
  have f3 := h1.free 3
  have hl := h1.lt
  have H1 := Lib.hid h1
  have HB := Lib.hid hb
  clear h1 hb C
  have HM := Lib.hid (mkF_ok n p hn)
  unfold fzC
  obtain ⟨m, hm⟩ : ∃ m, mkF n p = m := ⟨_, rfl⟩
  rw [hm] at HM ⊢
  have HE := Lib.hid hm
  clear hm
  obtain ⟨mi, mw, mp⟩ := m
  go_wp2_with fail
  go_end0
  rw [HE.out]
  exact ⟨rfl, ((H1.out.set (f' := ⟨⟨mi, wh, pr⟩, down, wr⟩) 1 _ rfl H1.out.wh H1.out.pr).set (f' := ⟨⟨mi, mw, pr⟩, down, wr⟩) 2 _ rfl HM.out.1 H1.out.pr).set 3 _ rfl HM.out.1 HM.out.2,
    (((K2.of HB.out).setCell ⟨sb, 1, none⟩ _ (.inl rfl)).setCell ⟨sb, 2, none⟩ _ (.inl rfl)).setCell ⟨sb, 3, none⟩ _ (.inl rfl)⟩
end Go.Proofs.Ytcipgjelbnmdiaa.ST
