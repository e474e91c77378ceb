/-
  What the rounds of flat.Make keep; contract of the iterator flat.pairs$1.
-/
import Derived.Test.YtplplkchibefjaaFlA
import Derived.Test.YtplplkchibefjaaFlD
namespace Go.Proofs.Ytplplkchibefjaa
open Go.RowKit Go.Shelf

/-- The block in which the list lies that a box holds. -/
def rowB (Bl : Nat) (W : World) : Option Nat := match W.cell? ⟨Bl, 0, none⟩ with | some v => v.ownBlock | none => none
def keepO : Obj → Bool
  | .cells _ _ _ => true
  | .map _ _ => true
  | .deferred _ => true
  | _ => false
/-- A block that no round turns. -/
structure Prot (Bl Bm : Nat) (W : World) (k : Nat) : Prop where
  l : k ≠ Bl
  m : k ≠ Bm
  r : rowB Bl W ≠ some k
  o : ∃ o, W.heap[k]? = some o ∧ keepO o = true
theorem Prot.lt {Bl Bm : Nat} {W : World} {k : Nat} (h : Prot Bl Bm W k) : k < W.heap.size := by obtain ⟨o, h, _⟩ := h.o; exact (Array.getElem?_eq_some_iff.1 h).1
/-- The box, the map, the list's row are there. -/
structure RowOk (Bl Bm : Nat) (W : World) : Prop where
  l : Bl < W.heap.size
  m : Bm < W.heap.size
  r : ∀ k, rowB Bl W = some k → ∃ o : Obj, W.heap[k]? = some o ∧ o.isCells = true
theorem RowOk.lt {Bl Bm : Nat} {W : World} (h : RowOk Bl Bm W) {k : Nat} (hk : rowB Bl W = some k) : k < W.heap.size := by obtain ⟨o, h, _⟩ := h.r k hk; exact (Array.getElem?_eq_some_iff.1 h).1
structure Kq (Bl Bm n : Nat) (A B : World) : Prop where
  size : A.heap.size ≤ B.heap.size
  kept : ∀ k, k < n → Prot Bl Bm A k → B.heap[k]? = A.heap[k]? ∧ Prot Bl Bm B k
  ok : RowOk Bl Bm A → RowOk Bl Bm B
theorem Kq.refl (Bl Bm n : Nat) (A : World) : Kq Bl Bm n A A := ⟨Nat.le_refl _, fun _ _ h => ⟨rfl, h⟩, fun h => h⟩
theorem Kq.trans {Bl Bm n : Nat} {A B C : World} (h : Kq Bl Bm n A B) (h2 : Kq Bl Bm n B C) : Kq Bl Bm n A C :=
  ⟨Nat.le_trans h.size h2.size, fun k hk hp => by
    obtain ⟨e1, p1⟩ := h.kept k hk hp
    obtain ⟨e2, p2⟩ := h2.kept k hk p1
    exact ⟨e2.trans e1, p2⟩, fun h0 => h2.ok (h.ok h0)⟩
theorem Kq.mono {Bl Bm n m : Nat} {A B : World} (h : Kq Bl Bm n A B) (hm : m ≤ n) : Kq Bl Bm m A B := ⟨h.size, fun k hk => h.kept k (by omega), h.ok⟩
theorem rowB_same {Bl : Nat} {A B : World} (h : B.heap[Bl]? = A.heap[Bl]?) : rowB Bl B = rowB Bl A := by
  unfold rowB
  rw [show B.cell? ⟨Bl, 0, none⟩ = A.cell? ⟨Bl, 0, none⟩ from World.cell?_of_block h]
theorem Prot.of {Bl Bm : Nat} {A B : World} {k : Nat} (h : Prot Bl Bm A k) (hB : B.heap[Bl]? = A.heap[Bl]?) (hk : B.heap[k]? = A.heap[k]?) : Prot Bl Bm B k :=
  ⟨h.l, h.m, by rw [rowB_same hB]; exact h.r, by rw [hk]; exact h.o⟩
theorem RowOk.below {Bl Bm : Nat} {A B : World} (h : RowOk Bl Bm A) (hb : Below A.heap.size A B) : RowOk Bl Bm B :=
  ⟨Nat.lt_of_lt_of_le h.l hb.size, Nat.lt_of_lt_of_le h.m hb.size, fun k hk => by
    rw [rowB_same (hb.block Bl h.l)] at hk
    rw [hb.block k (h.lt hk)]
    exact h.r k hk⟩
/-- A step that makes new blocks alone. -/
theorem Kq.below {Bl Bm n : Nat} {A B : World} (hl : Bl < A.heap.size) (hb : Below A.heap.size A B) : Kq Bl Bm n A B :=
  ⟨hb.size, fun k _ hp => ⟨hb.block k hp.lt, hp.of (hb.block Bl hl) (hb.block k hp.lt)⟩, fun h => h.below hb⟩
/-- A block that is new is turned by no round. -/
theorem Prot.new {Bl Bm : Nat} {A B : World} (h : RowOk Bl Bm A) (hb : Below A.heap.size A B) {k : Nat} {o : Obj} (hk : A.heap.size ≤ k) (ho : B.heap[k]? = some o) (hc : keepO o = true) : Prot Bl Bm B k :=
  ⟨by have := h.l; omega, by have := h.m; omega, by
    rw [rowB_same (hb.block Bl h.l)]
    intro e
    have := h.lt e; omega, ⟨o, ho, hc⟩⟩
/-- A block of deferred calls. -/
theorem Prot.def_ {Bl Bm : Nat} {W : World} (h : RowOk Bl Bm W) {k : Nat} {x : Option (List Deferred)} (hl : Bl < k) (hm : Bm < k) (ho : W.heap[k]? = some (.deferred x)) : Prot Bl Bm W k :=
  ⟨by omega, by omega, (fun e => by
    obtain ⟨o, h1, h2⟩ := h.r k e
    rw [ho] at h1; cases h1; cases h2), ⟨_, ho, rfl⟩⟩
theorem RowOk.put {Bl Bm l : Nat} {W : World} {o o' : Obj} (h : RowOk Bl Bm W) (hB : Bl ≠ l) (ho : W.heap[l]? = some o) (hc : o.isCells = false) : RowOk Bl Bm (W.putObj l o') :=
  ⟨by simpa using h.l, by simpa using h.m, fun k hk => by
    rw [rowB_same (World.putObj_heap_other (fun e => hB e))] at hk
    obtain ⟨o2, h1, h2⟩ := h.r k hk
    refine ⟨o2, (World.putObj_heap_other (fun e => ?_)).trans h1, h2⟩
    subst e
    rw [ho] at h1; cases h1; rw [hc] at h2; cases h2⟩
theorem Kq.put {Bl Bm n l : Nat} {W : World} {o o' : Obj} (hl : n ≤ l) (hB : Bl ≠ l) (ho : W.heap[l]? = some o) (hc : o.isCells = false) : Kq Bl Bm n W (W.putObj l o') :=
  ⟨by simp, fun k hk hp => ⟨World.putObj_heap_other (by omega), hp.of (World.putObj_heap_other (fun e => hB e)) (World.putObj_heap_other (by omega))⟩, fun h => h.put hB ho hc⟩
theorem Prot.cell {Bl Bm n : Nat} {A B : World} (h : Kq Bl Bm n A B) {p : Addr} (hn : p.block < n) (hp : Prot Bl Bm A p.block) : B.cell? p = A.cell? p := World.cell?_of_block (h.kept _ hn hp).1

/-- A row of numbers that no round turns. -/
def RowP (Bl Bm n : Nat) (W : World) (A : Option Addr) (l : List Nat) : Prop := l ≠ [] → ∃ g, A = some ⟨g, 0, none⟩ ∧ g < n ∧ Prot Bl Bm W g ∧ ∀ j, j < l.length → W.cell? ⟨g, j, none⟩ = some (.int .i64 ((l[j]! : Nat) : Int))
theorem RowP.kq {Bl Bm n : Nat} {A B : World} {a : Option Addr} {l : List Nat} (h : RowP Bl Bm n A a l) (hk : Kq Bl Bm n A B) : RowP Bl Bm n B a l := fun hl => by
  obtain ⟨g, e, hg, hp, hc⟩ := h hl
  exact ⟨g, e, hg, (hk.kept g hg hp).2, fun j hj => (Prot.cell hk (p := ⟨g, j, none⟩) hg hp).trans (hc j hj)⟩

/-- Each of one list with each of another one. -/
def prs (a b : List Nat) : List (Nat × Nat) := a.flatMap fun i => b.map fun j => (i, j)
theorem prs_succ {a b : List Nat} {k : Nat} (h : k < a.length) : prs (a.take (k + 1)) b = prs (a.take k) b ++ b.map fun j => (a[k]!, j) := by
  rw [prs, prs, List.take_succ_eq_append_getElem h, List.flatMap_append, getElem!_pos a k h]; simp
theorem prs_pre {a b : List Nat} {k m : Nat} (hk : k < a.length) : (prs (a.take k) b ++ (b.take m).map fun j => (a[k]!, j)) <+: prs a b := by
  have h1 : prs a b = prs (a.take (k + 1)) b ++ prs (a.drop (k + 1)) b := by rw [prs, prs, prs, ← List.flatMap_append, List.take_append_drop]
  have h2 : (b.map fun j => (a[k]!, j)) = ((b.take m).map fun j => (a[k]!, j)) ++ (b.drop m).map fun j => (a[k]!, j) := by rw [← List.map_append, List.take_append_drop]
  rw [h1, prs_succ hk, h2]
  exact ⟨((b.drop m).map fun j => (a[k]!, j)) ++ prs (a.drop (k + 1)) b, by simp only [List.append_assoc]⟩
theorem map_succ {b : List Nat} {m : Nat} (i : Nat) (h : m < b.length) : ((b.take (m + 1)).map fun j => (i, j)) = ((b.take m).map fun j => (i, j)) ++ [(i, b[m]!)] := by
  rw [List.take_succ_eq_append_getElem h, List.map_append, getElem!_pos b m h]; rfl

attribute [local go_sem] Oper.semAt_some
set_option maxRecDepth 100000 in
set_option maxHeartbeats 4000000 in
theorem pairs1_in (n : Nat) (hn : 1 ≤ n) (lp b1 b2 Bl Bm n₂ c1 c2 : Nat) (A1 A2 : Option Addr) (a b : List Nat) (ha : a.length ≤ 100000) (hb : b.length ≤ 100000) (J Jx : List (Nat × Nat) → World → Prop)
    (hY : ∀ pre x W, J pre W → (pre ++ [x]) <+: prs a b → YieldAt Fence.wide (n - 1) Try.prog lp #[.int .i64 (x.1 : Nat), .int .i64 (x.2 : Nat)] W fun e W' =>
      (e = .returned (.bool true) ∧ J (pre ++ [x]) W' ∧ Kq Bl Bm n₂ W W') ∨ (e = .returned (.bool false) ∧ Jx (pre ++ [x]) W'))
    (W : World) (h1 : W.heap[b1]? = some (.cells #[.slice A1 a.length c1] 54 (0, 0))) (h2 : W.heap[b2]? = some (.cells #[.slice A2 b.length c2] 54 (0, 0))) (hb2 : b2 < n₂) (p2 : Prot Bl Bm W b2)
    (r1 : RowP Bl Bm n₂ W A1 a) (r2 : RowP Bl Bm n₂ W A2 b) (h0 : J [] W) :
    CallsIn Fence.wide n Try.prog 115 #[.func (.yield lp) #[] #[], .pointer (some ⟨b1, 0, none⟩), .pointer (some ⟨b2, 0, none⟩)] W fun e W' => (∃ v, e = .returned v) ∧
      (J (prs a b) W' ∨ (∃ pre, pre <+: prs a b ∧ Jx pre W')) := by
  have c10 : W.cell? ⟨b1, 0, none⟩ = some (.slice A1 a.length c1) := cell_blk h1 rfl
  have c20 : W.cell? ⟨b2, 0, none⟩ = some (.slice A2 b.length c2) := cell_blk h2 rfl
  have HY := Lib.hid hY
  have HR1 := Lib.hid r1
  have HR2 := Lib.hid r2
  have HP2 := Lib.hid p2
  have HC2 := Lib.hid c20
  clear h1 h2 hY r1 r2 p2 c20
  refine callsIn_of_wp Try.func115 rfl trivial ?_ rfl
  simp only [Try.ntmps115, List.size_toArray, List.length_cons, List.length_nil, Nat.reduceAdd, Nat.reduceSub, Array.replicate_succ, Array.replicate_zero, List.push_toArray, List.append_toArray, List.nil_append, List.cons_append]
  gi_wp2
  gi_loopw [10] (fun i wr => ∃ k : Nat, k ≤ a.length ∧ i = .int .i64 k ∧ J (prs (a.take k) b) wr ∧ Hid (Kq Bl Bm n₂ W wr)) (fun i _ => a.length - (intOf i).toNat)
  case atStart => exact ⟨0, Nat.zero_le _, rfl, h0, Lib.hid (Kq.refl _ _ _ _)⟩
  case round =>
    clear h0 c10
    obtain ⟨k, hk, rfl, hJ, HK⟩ := hrel
    by_cases hlt : k < a.length
    · obtain ⟨g, rfl, hg, hp, hc⟩ := HR1.out (fun e => by rw [e] at hlt; simp at hlt)
      have k0 := hc k hlt
      rw [← Prot.cell HK.out (p := ⟨g, k, none⟩) hg hp] at k0
      have c20 := HC2.out
      rw [← Prot.cell HK.out (p := ⟨b2, 0, none⟩) hb2 HP2.out] at c20
      have hk0 : (0 : Int) ≤ (k : Int) := Int.natCast_nonneg _
      have hk1 : (k : Int) < (a.length : Int) := by omega
      have HS := Lib.hid (prs_succ (b := b) hlt)
      have HPR := fun m => Lib.hid (prs_pre (b := b) (m := m) hlt)
      clear hc
      generalize a[k]! = x at *
      gi_wp2
      obtain ⟨wo, hwo⟩ : ∃ wo : World, wo = wr := ⟨_, rfl⟩
      rw [← hwo] at hJ HK ⊢
      clear hwo k0 c20
      gi_loopw [16] (fun i wr => ∃ m : Nat, m ≤ b.length ∧ i = .int .i64 m ∧ J (prs (a.take k) b ++ (b.take m).map fun j => (x, j)) wr ∧ Hid (Kq Bl Bm n₂ W wr)) (fun i _ => b.length - (intOf i).toNat)
      case atStart => exact ⟨0, Nat.zero_le _, rfl, by simpa using hJ, HK⟩
      case round =>
        clear hJ HK
        obtain ⟨m, hm, rfl, hJ, HK⟩ := hrel
        by_cases hmt : m < b.length
        · obtain ⟨g2, rfl, hg2, hp2, hc2⟩ := HR2.out (fun e => by rw [e] at hmt; simp at hmt)
          have m0 := hc2 m hmt
          rw [← Prot.cell HK.out (p := ⟨g2, m, none⟩) hg2 hp2] at m0
          have hm0 : (0 : Int) ≤ (m : Int) := Int.natCast_nonneg _
          have hm1 : (m : Int) < (b.length : Int) := by omega
          obtain ⟨fn, tmps, assign, body, hy, hR⟩ := HY.out _ (x, b[m]!) wr hJ (by rw [List.append_assoc, ← map_succ x hmt]; exact (HPR (m + 1)).out)
          rw [List.append_assoc, ← map_succ x hmt] at hR
          dsimp only at hy
          clear hc2
          generalize b[m]! = y at *
          gi_wp2
          refine hR.mono ?_
          rintro e W3 (⟨rfl, hJ3, hk3⟩ | ⟨rfl, hJx3⟩)
          · gi_wp2
            go_roundw
            case rel => exact ⟨m + 1, hmt, by go_num, hJ3, Lib.hid (HK.out.trans hk3)⟩
            case measure => simp [intOf]; omega
          · gi_wp2
            refine bodyPost_ret (results_none rfl _ _ _) rfl ?_
            exact ⟨⟨_, rfl⟩, .inr ⟨_, (HPR (m + 1)).out, hJx3⟩⟩
        · obtain rfl : m = b.length := by omega
          rw [List.take_length, ← HS.out] at hJ
          gi_wp2
          go_roundw
          case rel => exact ⟨k + 1, hlt, by go_num, hJ, HK⟩
          case measure => simp [intOf]; omega
    · obtain rfl : k = a.length := by omega
      rw [List.take_length] at hJ
      gi_wp2
      go_end0
      exact ⟨⟨_, rfl⟩, .inl hJ⟩
end Go.Proofs.Ytplplkchibefjaa
