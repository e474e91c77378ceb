/-
  HeapSorts: all that is put comes once, the first one first: whatever the step, the items, the moment; no condition.
-/
import Derived.Test.YteakneekoogmmaaHcba
import Derived.Deep.CutBlock
import Derived.Deep.CutRange
namespace Go.Proofs.Yteakneekoogmmaa.HSorts
open Go.RowKit Go.Shelf Go.Deep Go.Joins Go.ChangeShapes Go.WideShapes Go.ChangeMaps Go.Proofs.Yteakneekoogmmaa.B Go.Proofs.Yteakneekoogmmaa.HP Go.Proofs.Yteakneekoogmmaa.OP
attribute [local go_sem] Oper.semAt_some
/-- All blocks from one on, but for another. -/
def XX (lo pm : Nat) : Nat → Prop := fun q => q ≠ pm ∧ lo ≤ q
/-- What stands between two rounds. -/
structure IV (W : World) (lo pm hb : Nat) (s : Int) (S : List It) (w : World) : Prop where
  h : HS ⟨w, XX lo pm⟩ w hb s S
  m : MB w pm (fun i => HP.hasB S i) S.length
  b : Below W.heap.size W w
  l : W.heap.size ≤ lo
  p : lo ≤ pm
theorem IV.bel {W : World} {lo pm hb : Nat} {s : Int} {S : List It} {w w' : World} (h : IV W lo pm hb s S w) (hk : Kept ⟨w, XX lo pm⟩ w') : Below W.heap.size W w' :=
  h.b.trans (hk.bel h.b.size (fun k hk hx => by have := hx.2; have := h.l; omega))
theorem IV.call {W : World} {lo pm hb : Nat} {s : Int} {S : List It} {w w' : World} (h : IV W lo pm hb s S w) (hb' : Below w.heap.size w w') : IV W lo pm hb s S w' :=
  ⟨h.h.reb (fun q hq hl => by
    rcases hq with hq | hq
    · exact hq
    · exact absurd hl (by have h9 : w.heap.size ≤ q := hq; omega)) (fun q _ hl => hb'.block q hl), h.m.call hb', h.b.trans (hb'.mono h.b.size), h.l, h.p⟩
theorem IV.far {W : World} {lo pm hb : Nat} {s : Int} {S : List It} {w : World} (h : IV W lo pm hb s S w) : ∀ q, (⟨w, XX lo pm⟩ : FW).far q → XX lo pm q := fun _ hq => by
  rcases hq with hq | hq
  · exact hq
  · have h1 : w.heap.size ≤ _ := hq
    have h2 := h.m.lt
    have h3 := h.p
    exact ⟨by omega, by omega⟩
theorem IV.map {W : World} {lo pm hb : Nat} {s : Int} {S : List It} {w w' : World} (h : IV W lo pm hb s S w) (hk : Kept ⟨w, XX lo pm⟩ w') : w'.heap[pm]? = w.heap[pm]? := hk.block pm h.m.lt (fun hx => hx.1 rfl)
/-- What is put, whether it may be or not. -/
theorem IV.put {W : World} {lo pm hb : Nat} {s : Int} {S S' : List It} {w w1 w2 : World} (h : IV W lo pm hb s S w) (h1 : HS ⟨w, XX lo pm⟩ w1 hb s S') (ht : w1.mapTurned w2 pm) (hm : MB w2 pm (fun i => HP.hasB S' i) S'.length) : IV W lo pm hb s S' w2 := by
  have hb1 := h.bel h1.k
  have hs := turned_size ht
  refine ⟨h1.reb (fun q hq _ => h.far q hq) (fun _ hq _ => turned_other ht hq.1), hm, hb1.trans (turned_below ht (by have := h.l; have := h.p; omega)), h.l, h.p⟩
theorem IV.same {W : World} {lo pm hb : Nat} {s : Int} {S : List It} {w w1 : World} (h : IV W lo pm hb s S w) (h1 : HS ⟨w, XX lo pm⟩ w1 hb s S) : IV W lo pm hb s S w1 :=
  ⟨h1.reb (fun q hq _ => h.far q hq) (fun _ _ _ => rfl), h.m.block (h.map h1.k), h.bel h1.k, h.l, h.p⟩
set_option maxRecDepth 100000 in
set_option maxHeartbeats 8000000 in
theorem walk (W : World) (st now : Int) (A : Option Addr) (c : Nat) (l : List It) (hr : Row W A (l.flatMap itC)) (hg : ∀ x ∈ l, goodI x) (hst : (Lit.int .u16 st).wf = true) (hnow : (Lit.int .u32 now).wf = true) :
    Calls Try.prog 4 #[.int .u16 st, .slice A l.length c, .int .u32 now] W fun e W' => e = .returned (.bool true) ∧ Below W.heap.size W W' := by
  have CA := Lib.hid (awake_any W)
  have hst2 : 0 ≤ st ∧ st ≤ 65535 := bounds_u16 hst
  have hnw2 : 0 ≤ now ∧ now ≤ 4294967295 := bounds_u32 hnow
  obtain ⟨hst0, hst1⟩ := hst2
  obtain ⟨hn0, hn1⟩ := hnw2
  have HR := Lib.hid hr
  have HG := Lib.hid hg
  clear hr hg hst hnow
  go_enter Try.func4, Try.ntmps4
  go_wp2_with fail
  refine CA.out.mono ?_
  rintro e W1 ⟨rfl, hb1⟩
  have HB1 := Lib.hid hb1
  clear hb1 CA
  go_wp2_with fail
  obtain ⟨s, hs⟩ : ∃ s : Int, s = st + 1 := ⟨_, rfl⟩
  have hs1 : 1 ≤ s := by omega
  have hs2 : s ≤ 65536 := by omega
  rw [← hs]
  have HS1 := Lib.hid hs
  clear hs
  have CN := Lib.hid (new_yes W1 s hs1 (by omega) (fun _ => False))
  refine CN.out.mono ?_
  rintro e W2 ⟨rfl, hb2, hw2⟩
  obtain ⟨hb, hhb⟩ : ∃ hb, hb = W1.heap.size + 1 := ⟨_, rfl⟩
  rw [← hhb] at hw2 ⊢
  have hH2 : HS ⟨W1, fun _ => False⟩ W2 hb s [] := ⟨⟨_, [], List.Perm.refl _, fun j h1 h2 => (by simp at h2), hw2⟩, List.Pairwise.nil⟩
  obtain ⟨W3, hW3⟩ : ∃ W3, W3 = W2.alloc (.map #[] 0) := ⟨_, rfl⟩
  have hb3 : Below W2.heap.size W2 W3 := by rw [hW3]; exact (Below.refl _ _).alloc (Nat.le_refl _) _
  have HI : Hid (IV W W1.heap.size W2.heap.size hb s [] W3) := Lib.hid ⟨hH2.reb (fun q hq hl => by
    rcases hq with hq | hq
    · exact hq.elim
    · exact ⟨by omega, hq⟩) (fun q _ hl => hb3.block q hl), by rw [hW3]; exact MB.made W2, (HB1.out.trans (hb2.mono HB1.out.size)).trans (hb3.mono (Nat.le_trans HB1.out.size hb2.size)), HB1.out.size, hb2.size⟩
  have hmm := @run_makeMap Try.prog
  clear hw2 hhb CN hb2 hH2 hb3
  obtain ⟨lo, hlo⟩ : ∃ lo, lo = W1.heap.size := ⟨_, rfl⟩
  obtain ⟨pm, hpm⟩ : ∃ pm, pm = W2.heap.size := ⟨_, rfl⟩
  rw [← hlo, ← hpm] at HI
  clear hlo
  go_upto_region 7 with fail
  rw [← hW3, ← hpm]
  clear hW3 hpm hmm
  go_upto_block 0 with fail
  go_cut [9] from 10 (fun t9 wx => t9 = .map (some pm) ∧ ∃ S : List It, S.length ≤ 200 ∧ Hid (IV W lo pm hb s S wx))
  case first =>
    go_wp2_with fail
    go_loopw [10] (fun i wr => ∃ (k : Nat) (S : List It), k ≤ l.length ∧ k ≤ 200 ∧ i = .int .i64 (k : Int) ∧ S.length ≤ k ∧ Hid (IV W lo pm hb s S wr)) (fun i _ => 200 - (intOf i).toNat)
    case atStart => exact ⟨0, [], Nat.zero_le _, Nat.zero_le _, rfl, Nat.zero_le _, HI⟩
    case round =>
      clear HI
      obtain ⟨k, S, hk, hk1, rfl, hS, HI⟩ := hrel
      by_cases hgo : k < l.length ∧ k < 200
      · obtain ⟨hlt, hl2⟩ := hgo
        have hlt1 : (k : Int) < (l.length : Int) := by omega
        have hl3 : (k : Int) < 200 := by omega
        have hk0 : (0 : Int) ≤ (k : Int) := Int.natCast_nonneg _
        obtain ⟨bk, off, hA, hbk, c0⟩ := (HR.out.below (Nat.le_refl _) HI.out.b).at_ (k := 3) (fun _ => rfl) (by omega) hlt
        have x0 : wr.cell? ⟨bk, off + k * 3, none⟩ = some (.int .i64 l[k]!.id) := by have := c0 0 _ rfl; rw [Nat.add_zero] at this; exact this
        have x1 : wr.cell? ⟨bk, off + k * 3 + 1, none⟩ = some (.int .i64 l[k]!.base) := c0 1 _ rfl
        have x2 : wr.cell? ⟨bk, off + k * 3 + 2, none⟩ = some (.int .i64 l[k]!.since) := c0 2 _ rfl
        obtain rfl : A = some ⟨bk, off, none⟩ := hA
        have hbkW : bk < W.heap.size := by
          obtain ⟨b', o', e, hl', _⟩ := HR.out (by
            intro e
            have h1 := Go.Proofs.Yteakneekoogmmaa.flat_len itC 3 (fun _ => rfl) l
            rw [e] at h1
            simp at h1
            omega)
          injection e with e
          injection e with e _ _
          rw [e]; exact hl'
        have CP := Lib.hid (hs_put _ wr hb s S HI.out.h l[k]! (HG.out _ (mem_at hlt)).1)
        have HWF := Lib.hid (HG.out _ (mem_at hlt)).1
        obtain ⟨x, hx⟩ : ∃ x, x = l[k]! := ⟨_, rfl⟩
        rw [← hx] at x0 x1 x2 CP HWF
        clear hx c0
        obtain ⟨xi, xb, xs⟩ := x
        simp only at x0 x1 x2 HWF
        by_cases h0 : putE S ⟨xi, xb, xs⟩ = 0
        · rw [h0, if_pos rfl] at CP
          have hno : HP.hasB S xi = false := by
            cases hq : HP.hasB S xi with
            | false => rfl
            | true =>
              unfold putE at h0
              by_cases ho : okB ⟨xi, xb, xs⟩ = false
              · rw [if_pos ho] at h0; cases h0
              · rw [if_neg ho, if_pos hq] at h0; cases h0
          clear h0
          go_wp2_with fail
          refine CP.out.mono ?_
          rintro e W4 ⟨rfl, hn⟩
          have y0 : W4.cell? ⟨bk, off + k * 3, none⟩ = some (.int .i64 xi) := (World.cell?_of_block (w := wr) (hn.k.block bk (Nat.lt_of_lt_of_le hbkW HI.out.b.size) (fun hx => by have := hx.2; have := HI.out.l; omega))).trans x0
          have hl4 : bk < W4.heap.size := Nat.lt_of_lt_of_le (Nat.lt_of_lt_of_le hbkW HI.out.b.size) hn.k.size
          obtain ⟨W5, hmu, hM5, ht5⟩ := (HI.out.m.block (HI.out.map hn.k)).put (i := xi) HWF.out (by omega)
          rw [hno, if_neg (by decide)] at hM5
          have hlen2 : (insI s S ⟨xi, xb, xs⟩).length = S.length + 1 := by rw [(insI_perm s S _).length_eq, List.length_append]; rfl
          have HI5 : Hid (IV W lo pm hb s (insI s S ⟨xi, xb, xs⟩) W5) := Lib.hid (HI.out.put hn ht5 (by rw [hlen2, hasI]; exact hM5))
          clear hn hM5 ht5 CP HI
          go_wp2_with fail
          go_roundw
          case rel => exact ⟨k + 1, _, hlt, by omega, by simp, by rw [hlen2]; omega, HI5⟩
          case measure => simp [intOf]; omega
        · rw [if_neg h0] at CP
          have hne : (putE S ⟨xi, xb, xs⟩ == 0) = false := by rw [beq_eq_false_iff_ne]; exact h0
          generalize putE S ⟨xi, xb, xs⟩ = pe at *
          clear h0
          go_wp2_with fail
          refine CP.out.mono ?_
          rintro e W4 ⟨rfl, hn⟩
          have HI5 := Lib.hid (HI.out.same hn)
          clear hn CP HI
          go_wp2_with fail
          go_roundw
          case rel => exact ⟨k + 1, S, hlt, by omega, by simp, by omega, HI5⟩
          case measure => simp [intOf]; omega
      · by_cases h1 : k < l.length
        · have hlt1 : (k : Int) < (l.length : Int) := by omega
          have hl3 : ¬ (k : Int) < 200 := by omega
          clear hgo
          go_wp2_with fail
          go_meet
          exact ⟨rfl, S, by omega, HI⟩
        · have hlt1 : ¬ (k : Int) < (l.length : Int) := by omega
          clear hgo
          go_wp2_with fail
          go_meet
          exact ⟨rfl, S, by omega, HI⟩
  case rest =>
    obtain ⟨rfl, S0, hS0, HI⟩ := hcut
    have hlen := HI.out.m.len
    go_wp2_with fail
    have hwv : ∃ n0, n0 = S0.length := ⟨_, rfl⟩
    obtain ⟨n0, hn0'⟩ := hwv
    rw [← hn0'] at hlen ⊢
    have HN0 := Lib.hid hn0'
    have hn200 : n0 ≤ 200 := by rw [hn0']; exact hS0
    clear hn0' hlen
    go_loopw [12, 13, 14] (fun v12 v13 v14 wr => ∃ (k : Nat) (S : List It) (la id : Int), k + S.length = n0 ∧ v12 = .int .i64 la ∧ v13 = .int .i64 id ∧ v14 = .int .i64 (k : Int) ∧ Hid (k = 0 ∨ ∃ p, (∀ y ∈ S, le s p y) ∧ la = wgt s p now ∧ id = p.id) ∧ Hid (IV W lo pm hb s S wr)) (fun _ _ v14 _ => n0 - (intOf v14).toNat)
    case atStart => exact ⟨0, S0, 0, 0, by rw [HN0.out]; omega, rfl, rfl, rfl, Lib.hid (.inl rfl), HI⟩
    case round =>
      clear HI
      obtain ⟨k, S, la, id, hks, rfl, rfl, rfl, HL, HI⟩ := hrel
      have hk0 : (0 : Int) ≤ (k : Int) := Int.natCast_nonneg _
      cases S with
      | nil =>
        have hks' : k = n0 := by simpa using hks
        subst hks'
        have hlt : ¬ (k : Int) < (k : Int) := by omega
        have CP := Lib.hid (hs_pop _ wr hb s [] HI.out.h)
        rw [show decide (0 < ([] : List It).length) = false from rfl, show ([] : List It).tail = [] from rfl] at CP
        go_wp2_with fail
        refine CP.out.mono ?_
        rintro e Wd ⟨rfl, hnd⟩
        have hbd := HI.out.bel hnd.k
        have CL := Lib.hid (fun o => hs_len _ (Wd.alloc o) hb s [] (hnd.call ((Below.refl _ _).alloc (Nat.le_refl _) o)))
        have HBD := Lib.hid (fun o => hbd.alloc (Nat.le_trans HI.out.b.size (by have := hnd.k.size; exact this)) o)
        clear hnd hbd CP
        go_wp2_with fail
        refine (CL.out _).mono ?_
        rintro e We ⟨rfl, hww⟩
        subst hww
        go_wp2_with fail
        go_ret
        exact ⟨rfl, HBD.out _⟩
      | cons x T =>
        have hlt : (k : Int) < (n0 : Int) := by rw [List.length_cons] at hks; omega
        have hk200 : (k : Int) < 200 := by omega
        have CK := Lib.hid (hs_peek _ wr hb s _ HI.out.h)
        rw [show (x :: T : List It)[0]! = x from rfl, show decide (0 < (x :: T : List It).length) = true from decide_eq_true (by simp)] at CK
        have HDI := Lib.hid HI.out.h.di
        have HSO := Lib.hid HI.out.h.so
        have hok := HI.out.h.ok x (List.mem_cons_self ..)
        have HWF := Lib.hid hok.id
        obtain ⟨wv, hwv⟩ : ∃ wv, wv = wgt s x now := ⟨_, rfl⟩
        have HWV := Lib.hid hwv.symm
        clear hok hwv
        have HC : Hid ((k = 0) ∨ (0 < k ∧ wv < la) ∨ (0 < k ∧ wv = la ∧ id ≤ x.id)) := Lib.hid (by
          by_cases h0 : k = 0
          · exact .inl h0
          · right
            rcases HL.out with h | ⟨p, h1, h2, h3⟩
            · exact absurd h h0
            · have h4 := wgt_le now (h1 x (List.mem_cons_self ..))
              rw [← h2, ← h3, HWV.out] at h4
              omega)
        have HL2 : Hid (∃ p, (∀ y ∈ T, le s p y) ∧ wv = wgt s p now ∧ x.id = p.id) := Lib.hid ⟨x, (List.pairwise_cons.1 HSO.out).1, HWV.out.symm, rfl⟩
        obtain ⟨xi, xb, xs⟩ := x
        rcases HC.out with hc | ⟨hc, hc2⟩ | ⟨hc, hc2, hc3⟩
        · clear HC
          have hg1 : ¬ (k : Int) > 0 := by omega
          have HCK := Lib.hid hc
          clear hc
          go_wp2_with fail
          refine CK.out.mono ?_
          rintro e Wa ⟨rfl, hba⟩
          obtain ⟨Wb, hWb⟩ : ∃ Wb, Wb = Wa.alloc (.cells #[.int .i64 xi, .int .i64 xb, .int .i64 xs] 32) := ⟨_, rfl⟩
          have hab : Below Wa.heap.size Wa Wb := by rw [hWb]; exact (Below.refl _ _).alloc (Nat.le_refl _) _
          have hbb : Below wr.heap.size wr Wb := hba.trans (hab.mono hba.size)
          have hpb : Wb.heap[Wa.heap.size]? = some (.cells #[.int .i64 xi, .int .i64 xb, .int .i64 xs] 32 (0, 0)) := by rw [hWb]; exact heap_new Wa _
          have b0 : Wb.cell? ⟨Wa.heap.size, 0, none⟩ = some (.int .i64 xi) := cell_blk (i := 0) hpb rfl
          have hzb := blk_lt hpb
          have CW := Lib.hid (hs_weight _ Wb hb s _ (HI.out.h.call hbb) xi now HWF.out)
          rw [show HP.hasB (⟨xi, xb, xs⟩ :: T) xi = true from has_mem.2 ⟨_, List.mem_cons_self .., rfl⟩, if_pos rfl, show HP.getI (⟨xi, xb, xs⟩ :: T) xi = ⟨xi, xb, xs⟩ from getI_mem (x := ⟨xi, xb, xs⟩) HDI.out (List.mem_cons_self ..)] at CW
          rw [HWV.out] at CW
          have HBB := Lib.hid hbb
          have HPB := Lib.hid hpb
          have HBA := Lib.hid hba
          clear hbb hpb hba hab CK
          go_upto_region 18 with fail
          show Code.wp _ _ _ _ (Wa.alloc (.cells #[.int .i64 xi, .int .i64 xb, .int .i64 xs] 32))
          rw [← hWb]
          clear hWb
          go_wp2_with fail
          refine CW.out.mono ?_
          rintro e Wc ⟨rfl, hbc⟩
          have hbc2 : Below wr.heap.size wr Wc := HBB.out.trans (hbc.mono HBB.out.size)
          have hpc : Wc.heap[Wa.heap.size]? = some (.cells #[.int .i64 xi, .int .i64 xb, .int .i64 xs] 32 (0, 0)) := (hbc.block _ hzb).trans HPB.out
          have CP := Lib.hid (hs_pop _ Wc hb s _ (HI.out.h.inner hbc2))
          rw [show (⟨xi, xb, xs⟩ :: T : List It)[0]! = ⟨xi, xb, xs⟩ from rfl, show decide (0 < (⟨xi, xb, xs⟩ :: T : List It).length) = true from decide_eq_true (by simp), show (⟨xi, xb, xs⟩ :: T : List It).tail = T from rfl] at CP
          have HPC := Lib.hid hpc
          have HBC := Lib.hid hbc2
          clear hbc hbc2 hpc b0 hzb CW
          go_wp2_with fail
          refine CP.out.mono ?_
          rintro e Wd ⟨rfl, hnd⟩
          have hzc := blk_lt HPC.out
          have hpd : Wd.heap[Wa.heap.size]? = some (.cells #[.int .i64 xi, .int .i64 xb, .int .i64 xs] 32 (0, 0)) := (hnd.k.mid HBA.out.size hzc).trans HPC.out
          have hod := HI.out.h.outer HBC.out hnd
          have hmd := HI.out.m.block (HI.out.map hod.k)
          obtain ⟨We, hWe⟩ : ∃ We, We = Wd.alloc (.cells #[.int .i64 xi, .int .i64 xb, .int .i64 xs] 32) := ⟨_, rfl⟩
          have hbe : Below Wd.heap.size Wd We := by rw [hWe]; exact (Below.refl _ _).alloc (Nat.le_refl _) _
          have hxe : We.heap[Wd.heap.size]? = some (.cells #[.int .i64 xi, .int .i64 xb, .int .i64 xs] 32 (0, 0)) := by rw [hWe]; exact heap_new Wd _
          have hzd := blk_lt hpd
          have hpe : We.heap[Wa.heap.size]? = some (.cells #[.int .i64 xi, .int .i64 xb, .int .i64 xs] 32 (0, 0)) := (hbe.block _ hzd).trans hpd
          have p0 : We.cell? ⟨Wa.heap.size, 0, none⟩ = some (.int .i64 xi) := cell_blk (i := 0) hpe rfl
          have p1 : We.cell? ⟨Wa.heap.size, 1, none⟩ = some (.int .i64 xb) := cell_blk (i := 1) hpe rfl
          have p2 : We.cell? ⟨Wa.heap.size, 2, none⟩ = some (.int .i64 xs) := cell_blk (i := 2) hpe rfl
          have q0 : We.cell? ⟨Wd.heap.size, 0, none⟩ = some (.int .i64 xi) := cell_blk (i := 0) hxe rfl
          have q1 : We.cell? ⟨Wd.heap.size, 1, none⟩ = some (.int .i64 xb) := cell_blk (i := 1) hxe rfl
          have q2 : We.cell? ⟨Wd.heap.size, 2, none⟩ = some (.int .i64 xs) := cell_blk (i := 2) hxe rfl
          have zp := blk_lt hpe
          have zq := blk_lt hxe
          have hme := hmd.call hbe
          have hlk := hme.look HWF.out (has_mem.2 ⟨(⟨xi, xb, xs⟩ : It), List.mem_cons_self .., rfl⟩)
          obtain ⟨Wf, hdl, hmf, htf⟩ := hme.drop (m := T.length) HWF.out (has_mem.2 ⟨(⟨xi, xb, xs⟩ : It), List.mem_cons_self .., rfl⟩) 0
          have hne1 : Wd.heap.size ≠ pm := by have := hmd.lt; omega
          have hxf : Wf.heap[Wd.heap.size]? = some (.cells #[.int .i64 xi, .int .i64 xb, .int .i64 xs] 32 (0, 0)) := (turned_other htf hne1).trans hxe
          have r0 : Wf.drew.cell? ⟨Wd.heap.size, 0, none⟩ = some (.int .i64 xi) := cell_blk (i := 0) hxf rfl
          have zr : Wd.heap.size < Wf.drew.heap.size := blk_lt hxf
          have HJ : Hid (IV W lo pm hb s T Wf) := Lib.hid ⟨hod.reb (fun q hq _ => HI.out.far q hq) (fun q hq hl => (turned_other htf hq.1).trans (hbe.block q hl)), by rw [hasT HDI.out]; exact hmf, (HI.out.bel hod.k).trans ((hbe.mono (Nat.le_trans HI.out.b.size (Nat.le_trans HBC.out.size (by have := hnd.k.size; exact this)))).trans (turned_below htf (by have := HI.out.l; have := HI.out.p; omega))), HI.out.l, HI.out.p⟩
          clear hnd hpd hod hmd hbe hxe hpe hme hmf htf hxf hzd hne1 hzc CP
          go_upto_region 20 with fail
          show Code.wp _ _ _ _ (Wd.alloc (.cells #[.int .i64 xi, .int .i64 xb, .int .i64 xs] 32))
          rw [← hWe]
          clear hWe
          go_upto_region 23 with fail
          have r00 : Wf.cell? ⟨Wd.heap.size, 0, none⟩ = some (.int .i64 xi) := r0
          clear hdl hlk p0 p1 p2 q0 q1 q2 zp zq
          go_quiet (fail)
          have HJ2 : Hid (IV W lo pm hb s T (Wf.drewN nq)) := Lib.hid (HJ.out.call (below_draws (Below.refl _ _) nq))
          go_wp2_with fail
          go_roundw
          case rel => exact ⟨k + 1, T, wv, xi, by rw [List.length_cons] at hks; omega, rfl, rfl, by simp, Lib.hid (.inr HL2.out), HJ2⟩
          case measure => (rw [List.length_cons] at hks; simp [intOf]; omega)

        · clear HC
          have hg1 : (k : Int) > 0 := by omega
          have hg2 : ¬ wv > la := by omega
          have hg3 : (wv == la) = false := by rw [beq_eq_false_iff_ne]; omega
          have HCK := Lib.hid hc
          clear hc hc2
          go_wp2_with fail
          refine CK.out.mono ?_
          rintro e Wa ⟨rfl, hba⟩
          obtain ⟨Wb, hWb⟩ : ∃ Wb, Wb = Wa.alloc (.cells #[.int .i64 xi, .int .i64 xb, .int .i64 xs] 32) := ⟨_, rfl⟩
          have hab : Below Wa.heap.size Wa Wb := by rw [hWb]; exact (Below.refl _ _).alloc (Nat.le_refl _) _
          have hbb : Below wr.heap.size wr Wb := hba.trans (hab.mono hba.size)
          have hpb : Wb.heap[Wa.heap.size]? = some (.cells #[.int .i64 xi, .int .i64 xb, .int .i64 xs] 32 (0, 0)) := by rw [hWb]; exact heap_new Wa _
          have b0 : Wb.cell? ⟨Wa.heap.size, 0, none⟩ = some (.int .i64 xi) := cell_blk (i := 0) hpb rfl
          have hzb := blk_lt hpb
          have CW := Lib.hid (hs_weight _ Wb hb s _ (HI.out.h.call hbb) xi now HWF.out)
          rw [show HP.hasB (⟨xi, xb, xs⟩ :: T) xi = true from has_mem.2 ⟨_, List.mem_cons_self .., rfl⟩, if_pos rfl, show HP.getI (⟨xi, xb, xs⟩ :: T) xi = ⟨xi, xb, xs⟩ from getI_mem (x := ⟨xi, xb, xs⟩) HDI.out (List.mem_cons_self ..)] at CW
          rw [HWV.out] at CW
          have HBB := Lib.hid hbb
          have HPB := Lib.hid hpb
          have HBA := Lib.hid hba
          clear hbb hpb hba hab CK
          go_upto_region 18 with fail
          show Code.wp _ _ _ _ (Wa.alloc (.cells #[.int .i64 xi, .int .i64 xb, .int .i64 xs] 32))
          rw [← hWb]
          clear hWb
          go_wp2_with fail
          refine CW.out.mono ?_
          rintro e Wc ⟨rfl, hbc⟩
          have hbc2 : Below wr.heap.size wr Wc := HBB.out.trans (hbc.mono HBB.out.size)
          have hpc : Wc.heap[Wa.heap.size]? = some (.cells #[.int .i64 xi, .int .i64 xb, .int .i64 xs] 32 (0, 0)) := (hbc.block _ hzb).trans HPB.out
          have CP := Lib.hid (hs_pop _ Wc hb s _ (HI.out.h.inner hbc2))
          rw [show (⟨xi, xb, xs⟩ :: T : List It)[0]! = ⟨xi, xb, xs⟩ from rfl, show decide (0 < (⟨xi, xb, xs⟩ :: T : List It).length) = true from decide_eq_true (by simp), show (⟨xi, xb, xs⟩ :: T : List It).tail = T from rfl] at CP
          have HPC := Lib.hid hpc
          have HBC := Lib.hid hbc2
          clear hbc hbc2 hpc b0 hzb CW
          go_wp2_with fail
          refine CP.out.mono ?_
          rintro e Wd ⟨rfl, hnd⟩
          have hzc := blk_lt HPC.out
          have hpd : Wd.heap[Wa.heap.size]? = some (.cells #[.int .i64 xi, .int .i64 xb, .int .i64 xs] 32 (0, 0)) := (hnd.k.mid HBA.out.size hzc).trans HPC.out
          have hod := HI.out.h.outer HBC.out hnd
          have hmd := HI.out.m.block (HI.out.map hod.k)
          obtain ⟨We, hWe⟩ : ∃ We, We = Wd.alloc (.cells #[.int .i64 xi, .int .i64 xb, .int .i64 xs] 32) := ⟨_, rfl⟩
          have hbe : Below Wd.heap.size Wd We := by rw [hWe]; exact (Below.refl _ _).alloc (Nat.le_refl _) _
          have hxe : We.heap[Wd.heap.size]? = some (.cells #[.int .i64 xi, .int .i64 xb, .int .i64 xs] 32 (0, 0)) := by rw [hWe]; exact heap_new Wd _
          have hzd := blk_lt hpd
          have hpe : We.heap[Wa.heap.size]? = some (.cells #[.int .i64 xi, .int .i64 xb, .int .i64 xs] 32 (0, 0)) := (hbe.block _ hzd).trans hpd
          have p0 : We.cell? ⟨Wa.heap.size, 0, none⟩ = some (.int .i64 xi) := cell_blk (i := 0) hpe rfl
          have p1 : We.cell? ⟨Wa.heap.size, 1, none⟩ = some (.int .i64 xb) := cell_blk (i := 1) hpe rfl
          have p2 : We.cell? ⟨Wa.heap.size, 2, none⟩ = some (.int .i64 xs) := cell_blk (i := 2) hpe rfl
          have q0 : We.cell? ⟨Wd.heap.size, 0, none⟩ = some (.int .i64 xi) := cell_blk (i := 0) hxe rfl
          have q1 : We.cell? ⟨Wd.heap.size, 1, none⟩ = some (.int .i64 xb) := cell_blk (i := 1) hxe rfl
          have q2 : We.cell? ⟨Wd.heap.size, 2, none⟩ = some (.int .i64 xs) := cell_blk (i := 2) hxe rfl
          have zp := blk_lt hpe
          have zq := blk_lt hxe
          have hme := hmd.call hbe
          have hlk := hme.look HWF.out (has_mem.2 ⟨(⟨xi, xb, xs⟩ : It), List.mem_cons_self .., rfl⟩)
          obtain ⟨Wf, hdl, hmf, htf⟩ := hme.drop (m := T.length) HWF.out (has_mem.2 ⟨(⟨xi, xb, xs⟩ : It), List.mem_cons_self .., rfl⟩) 0
          have hne1 : Wd.heap.size ≠ pm := by have := hmd.lt; omega
          have hxf : Wf.heap[Wd.heap.size]? = some (.cells #[.int .i64 xi, .int .i64 xb, .int .i64 xs] 32 (0, 0)) := (turned_other htf hne1).trans hxe
          have r0 : Wf.drew.cell? ⟨Wd.heap.size, 0, none⟩ = some (.int .i64 xi) := cell_blk (i := 0) hxf rfl
          have zr : Wd.heap.size < Wf.drew.heap.size := blk_lt hxf
          have HJ : Hid (IV W lo pm hb s T Wf) := Lib.hid ⟨hod.reb (fun q hq _ => HI.out.far q hq) (fun q hq hl => (turned_other htf hq.1).trans (hbe.block q hl)), by rw [hasT HDI.out]; exact hmf, (HI.out.bel hod.k).trans ((hbe.mono (Nat.le_trans HI.out.b.size (Nat.le_trans HBC.out.size (by have := hnd.k.size; exact this)))).trans (turned_below htf (by have := HI.out.l; have := HI.out.p; omega))), HI.out.l, HI.out.p⟩
          clear hnd hpd hod hmd hbe hxe hpe hme hmf htf hxf hzd hne1 hzc CP
          go_upto_region 20 with fail
          show Code.wp _ _ _ _ (Wd.alloc (.cells #[.int .i64 xi, .int .i64 xb, .int .i64 xs] 32))
          rw [← hWe]
          clear hWe
          go_upto_region 23 with fail
          have r00 : Wf.cell? ⟨Wd.heap.size, 0, none⟩ = some (.int .i64 xi) := r0
          clear hdl hlk p0 p1 p2 q0 q1 q2 zp zq
          go_quiet (fail)
          have HJ2 : Hid (IV W lo pm hb s T (Wf.drewN nq)) := Lib.hid (HJ.out.call (below_draws (Below.refl _ _) nq))
          go_wp2_with fail
          go_roundw
          case rel => exact ⟨k + 1, T, wv, xi, by rw [List.length_cons] at hks; omega, rfl, rfl, by simp, Lib.hid (.inr HL2.out), HJ2⟩
          case measure => (rw [List.length_cons] at hks; simp [intOf]; omega)

        · clear HC
          have hg1 : (k : Int) > 0 := by omega
          have hg2 : ¬ wv > la := by omega
          have hg3 : (wv == la) = true := by rw [beq_iff_eq]; exact hc2
          have hg4 : ¬ xi < id := by have h9 : id ≤ xi := hc3; omega
          have HCK := Lib.hid hc
          clear hc hc2 hc3
          go_wp2_with fail
          refine CK.out.mono ?_
          rintro e Wa ⟨rfl, hba⟩
          obtain ⟨Wb, hWb⟩ : ∃ Wb, Wb = Wa.alloc (.cells #[.int .i64 xi, .int .i64 xb, .int .i64 xs] 32) := ⟨_, rfl⟩
          have hab : Below Wa.heap.size Wa Wb := by rw [hWb]; exact (Below.refl _ _).alloc (Nat.le_refl _) _
          have hbb : Below wr.heap.size wr Wb := hba.trans (hab.mono hba.size)
          have hpb : Wb.heap[Wa.heap.size]? = some (.cells #[.int .i64 xi, .int .i64 xb, .int .i64 xs] 32 (0, 0)) := by rw [hWb]; exact heap_new Wa _
          have b0 : Wb.cell? ⟨Wa.heap.size, 0, none⟩ = some (.int .i64 xi) := cell_blk (i := 0) hpb rfl
          have hzb := blk_lt hpb
          have CW := Lib.hid (hs_weight _ Wb hb s _ (HI.out.h.call hbb) xi now HWF.out)
          rw [show HP.hasB (⟨xi, xb, xs⟩ :: T) xi = true from has_mem.2 ⟨_, List.mem_cons_self .., rfl⟩, if_pos rfl, show HP.getI (⟨xi, xb, xs⟩ :: T) xi = ⟨xi, xb, xs⟩ from getI_mem (x := ⟨xi, xb, xs⟩) HDI.out (List.mem_cons_self ..)] at CW
          rw [HWV.out] at CW
          have HBB := Lib.hid hbb
          have HPB := Lib.hid hpb
          have HBA := Lib.hid hba
          clear hbb hpb hba hab CK
          go_upto_region 18 with fail
          show Code.wp _ _ _ _ (Wa.alloc (.cells #[.int .i64 xi, .int .i64 xb, .int .i64 xs] 32))
          rw [← hWb]
          clear hWb
          go_wp2_with fail
          refine CW.out.mono ?_
          rintro e Wc ⟨rfl, hbc⟩
          have hbc2 : Below wr.heap.size wr Wc := HBB.out.trans (hbc.mono HBB.out.size)
          have hpc : Wc.heap[Wa.heap.size]? = some (.cells #[.int .i64 xi, .int .i64 xb, .int .i64 xs] 32 (0, 0)) := (hbc.block _ hzb).trans HPB.out
          have CP := Lib.hid (hs_pop _ Wc hb s _ (HI.out.h.inner hbc2))
          rw [show (⟨xi, xb, xs⟩ :: T : List It)[0]! = ⟨xi, xb, xs⟩ from rfl, show decide (0 < (⟨xi, xb, xs⟩ :: T : List It).length) = true from decide_eq_true (by simp), show (⟨xi, xb, xs⟩ :: T : List It).tail = T from rfl] at CP
          have HPC := Lib.hid hpc
          have HBC := Lib.hid hbc2
          clear hbc hbc2 hpc b0 hzb CW
          go_wp2_with fail
          refine CP.out.mono ?_
          rintro e Wd ⟨rfl, hnd⟩
          have hzc := blk_lt HPC.out
          have hpd : Wd.heap[Wa.heap.size]? = some (.cells #[.int .i64 xi, .int .i64 xb, .int .i64 xs] 32 (0, 0)) := (hnd.k.mid HBA.out.size hzc).trans HPC.out
          have hod := HI.out.h.outer HBC.out hnd
          have hmd := HI.out.m.block (HI.out.map hod.k)
          obtain ⟨We, hWe⟩ : ∃ We, We = Wd.alloc (.cells #[.int .i64 xi, .int .i64 xb, .int .i64 xs] 32) := ⟨_, rfl⟩
          have hbe : Below Wd.heap.size Wd We := by rw [hWe]; exact (Below.refl _ _).alloc (Nat.le_refl _) _
          have hxe : We.heap[Wd.heap.size]? = some (.cells #[.int .i64 xi, .int .i64 xb, .int .i64 xs] 32 (0, 0)) := by rw [hWe]; exact heap_new Wd _
          have hzd := blk_lt hpd
          have hpe : We.heap[Wa.heap.size]? = some (.cells #[.int .i64 xi, .int .i64 xb, .int .i64 xs] 32 (0, 0)) := (hbe.block _ hzd).trans hpd
          have p0 : We.cell? ⟨Wa.heap.size, 0, none⟩ = some (.int .i64 xi) := cell_blk (i := 0) hpe rfl
          have p1 : We.cell? ⟨Wa.heap.size, 1, none⟩ = some (.int .i64 xb) := cell_blk (i := 1) hpe rfl
          have p2 : We.cell? ⟨Wa.heap.size, 2, none⟩ = some (.int .i64 xs) := cell_blk (i := 2) hpe rfl
          have q0 : We.cell? ⟨Wd.heap.size, 0, none⟩ = some (.int .i64 xi) := cell_blk (i := 0) hxe rfl
          have q1 : We.cell? ⟨Wd.heap.size, 1, none⟩ = some (.int .i64 xb) := cell_blk (i := 1) hxe rfl
          have q2 : We.cell? ⟨Wd.heap.size, 2, none⟩ = some (.int .i64 xs) := cell_blk (i := 2) hxe rfl
          have zp := blk_lt hpe
          have zq := blk_lt hxe
          have hme := hmd.call hbe
          have hlk := hme.look HWF.out (has_mem.2 ⟨(⟨xi, xb, xs⟩ : It), List.mem_cons_self .., rfl⟩)
          obtain ⟨Wf, hdl, hmf, htf⟩ := hme.drop (m := T.length) HWF.out (has_mem.2 ⟨(⟨xi, xb, xs⟩ : It), List.mem_cons_self .., rfl⟩) 0
          have hne1 : Wd.heap.size ≠ pm := by have := hmd.lt; omega
          have hxf : Wf.heap[Wd.heap.size]? = some (.cells #[.int .i64 xi, .int .i64 xb, .int .i64 xs] 32 (0, 0)) := (turned_other htf hne1).trans hxe
          have r0 : Wf.drew.cell? ⟨Wd.heap.size, 0, none⟩ = some (.int .i64 xi) := cell_blk (i := 0) hxf rfl
          have zr : Wd.heap.size < Wf.drew.heap.size := blk_lt hxf
          have HJ : Hid (IV W lo pm hb s T Wf) := Lib.hid ⟨hod.reb (fun q hq _ => HI.out.far q hq) (fun q hq hl => (turned_other htf hq.1).trans (hbe.block q hl)), by rw [hasT HDI.out]; exact hmf, (HI.out.bel hod.k).trans ((hbe.mono (Nat.le_trans HI.out.b.size (Nat.le_trans HBC.out.size (by have := hnd.k.size; exact this)))).trans (turned_below htf (by have := HI.out.l; have := HI.out.p; omega))), HI.out.l, HI.out.p⟩
          clear hnd hpd hod hmd hbe hxe hpe hme hmf htf hxf hzd hne1 hzc CP
          go_upto_region 20 with fail
          show Code.wp _ _ _ _ (Wd.alloc (.cells #[.int .i64 xi, .int .i64 xb, .int .i64 xs] 32))
          rw [← hWe]
          clear hWe
          go_upto_region 23 with fail
          have r00 : Wf.cell? ⟨Wd.heap.size, 0, none⟩ = some (.int .i64 xi) := r0
          clear hdl hlk p0 p1 p2 q0 q1 q2 zp zq
          go_quiet (fail)
          have HJ2 : Hid (IV W lo pm hb s T (Wf.drewN nq)) := Lib.hid (HJ.out.call (below_draws (Below.refl _ _) nq))
          go_wp2_with fail
          go_roundw
          case rel => exact ⟨k + 1, T, wv, xi, by rw [List.length_cons] at hks; omega, rfl, rfl, by simp, Lib.hid (.inr HL2.out), HJ2⟩
          case measure => (rw [List.length_cons] at hks; simp [intOf]; omega)
theorem own : ownKnob Try.prog.godebug = none := by kernel_rfl
set_option maxRecDepth 100000 in
theorem lifted (os : Os) (started : os.Started) (H : Type) (enc : TypeId × Value → H) :
    ReturnsInHanded {} Try.checked os 4 .any (Rows.heapSortsSpec.pre6 enc Try.prog Try.f4 Rows.heapSortsRow.domain false) (Rows.heapSortsSpec.post enc Try.prog Try.f4 false true false false) := by
  refine returnsInHanded_of_change_sized (C := Try.checked) own started (by kernel_rfl) Try.func4
    (ChangeSpec.witness6 (enc := enc) (C := Try.checked) false ⟨#[], #[.int .u16 0, .slice none 0 0, .int .u32 0], []⟩ 8 (by kernel_rfl) (by kernel_rfl) (by kernel_rfl) (by kernel_rfl)) ?_
  intro W base args ds gs before hval0 hW _ hsz0 _
  have hsz : (DataW.weightsEach Try.prog (Try.f4.params.toList ++ Rows.heapSortsSpec.plain.varTypes Try.prog) (ds ++ gs)).all (· ≤ reachBytes) = true := hsz0
  have hval : ∀ (j : Nat) t v, Try.f4.params[j]? = some t → args[j]? = some v → Value.okWide Try.prog W .any base t v := hval0
  have hW' := hW
  obtain ⟨p, q, hA0, hV, rfl, _, _⟩ := hW
  have hA : DataW.TrodAll enc Try.prog W 0 (fun _ => true) true Try.f4.params.toList args.toList ds p := hA0
  rw [Try.params4] at hA hval hsz
  obtain ⟨v0, vs0, d0, ds0, p0, q0, hargs, rfl, rfl, h0, r0⟩ := trodAll_cons hA
  obtain ⟨v1, vs1, d1, ds1, p1, q1, e1, rfl, rfl, h1, r1⟩ := trodAll_cons r0
  obtain ⟨v2, vs2, d2, ds2, p2, q2, e2, rfl, rfl, h2, r2⟩ := trodAll_cons r1
  obtain ⟨rfl, rfl, rfl⟩ := trodAll_nil r2
  subst e2
  subst e1
  obtain rfl : args = #[v0, v1, v2] := by cases args; simp_all
  obtain ⟨rfl, rfl⟩ := trodVars_none hV
  obtain ⟨n0, rfl, hw0⟩ := open_intk Try.underlying54 (hval 0 _ v0 rfl rfl) h0
  have hw1 : Wt Try.prog 51 d1 := Wt.of hsz (j := 1) rfl rfl
  obtain ⟨A1, c1, l1, rfl, hr1, hg1⟩ := open_its (hval 1 _ v1 rfl rfl) h1 hw1
  obtain ⟨n2, rfl, hw2⟩ := open_intk Try.underlying55 (hval 2 _ v2 rfl rfl) h2
  clear hA0 hval0 hsz0
  simp only [List.append_nil] at hW'
  have hlt0 := fun x hx => hW'.lt x hx
  refine (walk W n0 n2 A1 c1 l1 hr1 hg1 hw0 hw2).mono fun e W' ⟨he2, hg⟩ => ?_
  subst he2
  have hargs := (trodAll_cons_mk (Below.trod progLaid (by kernel_rfl) (of_decide_eq_true (by kernel_rfl)) h0 hg (fun x hx => hlt0 x (List.mem_append_left _ hx))) (trodAll_cons_mk (Below.trod progLaid (by kernel_rfl) (of_decide_eq_true (by kernel_rfl)) h1 hg (fun x hx => hlt0 x (List.mem_append_right _ (List.mem_append_left _ hx)))) (trodAll_cons_mk (Below.trod progLaid (by kernel_rfl) (of_decide_eq_true (by kernel_rfl)) h2 hg (fun x hx => hlt0 x (List.mem_append_right _ (List.mem_append_right _ (hx))))) (trodAll_mk0 (enc := enc) (P := Try.prog) (w := W')))))
  simp only [List.append_nil] at hargs
  exact ⟨_, rfl, _, _, _, [], p0 ++ (p1 ++ (p2)), [], hW', trodAll_cons_mk (shut_bool Try.underlying4 _) trodAll_mk0, hargs, rfl, hg.frame _, fun h => by cases h⟩
theorem proved : Rows.HeapSortsSaid :=
  OpenClaim.holds_of_wide 4 Try.f4 rfl rfl rfl rfl rfl rfl rfl ⟨rfl, rfl, rfl, rfl, rfl⟩ rfl rfl rfl rfl rfl (by kernel_rfl) Try.func4 (by kernel_rfl)
    (of_decide_eq_true (by kernel_rfl)) (by unfold Func.isWrapper; first | (rw [if_pos (by decide +kernel)]; kernel_rfl) | (rw [if_neg (by decide +kernel)]; exact ⟨rfl, rfl⟩))
    (fun os started H enc _ => lifted os started H enc)
end Go.Proofs.Yteakneekoogmmaa.HSorts
