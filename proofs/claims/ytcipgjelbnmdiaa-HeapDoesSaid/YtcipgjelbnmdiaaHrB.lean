/-
  The document's own heap: Put, Remove.
-/
import Derived.Test.YtcipgjelbnmdiaaHrA
import Derived.Laws.AppendOwnNone
import Derived.Maps.AppendAt
namespace Go.Proofs.Ytcipgjelbnmdiaa.HP
open Go.RowKit Go.Shelf Go.Proofs.Ytcipgjelbnmdiaa.B Go.ChangeMaps
attribute [local go_sem] Oper.semAt_some

/-- Items that lie where a slice points. -/
def SrcI (W : World) (sv : Value) (m : Nat) (news : List Value) : Prop := (sv = .slice none 0 0 ∧ m = 0 ∧ news = []) ∨ ∃ g off c, sv = .slice (some ⟨g, off, none⟩) m c ∧ g < W.heap.size ∧ news.length = m * 3 ∧ ∀ j u, news[j]? = some u → W.cell? ⟨g, off + j, none⟩ = some u
theorem SrcI.below {w W : World} {sv : Value} {m : Nat} {news : List Value} (h : SrcI w sv m news) (hb : Below w.heap.size w W) : SrcI W sv m news := by
  rcases h with h | ⟨g, off, c, e, hg, hn, hc⟩
  · exact .inl h
  · exact .inr ⟨g, off, c, e, Nat.lt_of_lt_of_le hg hb.size, hn, fun j u hj => (hb.cell (p := ⟨g, off + j, none⟩) hg).trans (hc j u hj)⟩
theorem info_ri : (Try.prog.info? 37).map (fun i => (i.zero, i.size, i.bytes)) = some (some (.agg #[.int .i64 0, .int .i64 0, .int .i64 0]), 3, 24) := by kernel_rfl
/-- Items joined to a row of one's own. -/
theorem wp_app {o : Oper} {a : Act} {w : World} {K : Act → World → Prop} {Q : Exit → Act → World → Prop} (s x : Operand) (hop : o.op = Op.call { callee := Callee.builtin Builtin.append, args := #[s, x], argTypes := #[47, 47] })
    (B : Nat) (v : Value) (n : Nat) (xs : List Value) (hs : a.eval s = v) (hown : w.ownsRow B 37 3 v n xs) (sv : Value) (m : Nat) (news : List Value) (hx : a.eval x = sv) (hsrc : SrcI w sv m news) (h1c : ∀ u ∈ news, u.oneCell' = true)
    (hnm : n + m ≤ 100000) (hb : B ≤ w.heap.size)
    (hK : ∀ v' w', w'.ownsRow B 37 3 v' (n + m) (xs ++ news) → w.grownBy w' v.ownBlock → (v'.ownBlock = v.ownBlock ∨ v'.ownBlock = some w.heap.size) → K (a.put o.dst v') w') : o.wp Try.prog a w K Q := by
  obtain ⟨i0, hi, hz0, hz1, hz2⟩ := info_parts info_ri
  rcases hsrc with ⟨rfl, rfl, rfl⟩ | ⟨g, off, c, rfl, _, hn, hc⟩
  · have hrun := run_append_owned_none (P := Try.prog) (w := w) B 47 o.type 37 i0 3 Try.underlying47 hi v n xs hown
    unfold Oper.wp
    simp [execOp, hop, resolve, invoke, builtin, hs, hx, hrun, Result.andThen]
    refine hK v w (by simpa using hown) ⟨rfl, rfl, rfl, Nat.le_refl _, fun _ _ _ => rfl⟩ (.inl rfl)
  · obtain ⟨v', w', hrun, r1, r2, _, r3⟩ := run_append_own_at (P := Try.prog) w B 47 o.type 37 i0 _ 3 24 Try.underlying47 hi hz0 hz1 hz2 rfl (by omega) v n xs hown ⟨g, off, none⟩ m c news hn (fun j u hj => by rw [Addr.add_lit]; exact hc j u hj) h1c (by unfold maxLen; omega) (by omega) hb
    unfold Oper.wp
    simp [execOp, hop, resolve, invoke, builtin, hs, hx, hrun, Result.andThen]
    exact hK v' w' r1 r2 r3
/-- A part of a row. -/
theorem own_src {w : World} {B : Nat} {A : Option Addr} {c : Nat} {T : List It} (h : w.ownsRow B 37 3 (.slice A T.length c) T.length (T.flatMap itC)) {lo hi : Nat} (h1 : lo ≤ hi) (h2 : hi ≤ T.length) : SrcI w (.slice (if c = lo then A else A.map (·.add (lo * 3))) (hi - lo) (c - lo)) (hi - lo) (((T.drop lo).take (hi - lo)).flatMap itC) := by
  have hcap := own_cap h
  cases A with
  | none =>
    have hc0 := hcap.2 rfl
    have : T.length = 0 := by omega
    have e1 : lo = 0 := by omega
    have e2 : hi = 0 := by omega
    subst hc0 e1 e2
    exact .inl ⟨by simp, rfl, by simp⟩
  | some ad =>
    obtain ⟨g, rfl⟩ : ∃ g, ad = ⟨g, 0, none⟩ := by
      rcases h.2 with ⟨hv, _⟩ | ⟨g, cap, cur, hv, _⟩
      · cases hv
      · injection hv with hv _ _; injection hv with hv; exact ⟨g, hv⟩
    have hg : g < w.heap.size := (h.lt g rfl).2
    have hlen : (((T.drop lo).take (hi - lo)).flatMap itC).length = (hi - lo) * 3 := by
      rw [Go.Proofs.Ytcipgjelbnmdiaa.flat_len itC 3 (fun _ => rfl), List.length_take, List.length_drop]
      congr 1
      omega
    have hcell : ∀ j u, (((T.drop lo).take (hi - lo)).flatMap itC)[j]? = some u → w.cell? ⟨g, lo * 3 + j, none⟩ = some u := by
      intro j u hj
      have hjl := (List.getElem?_eq_some_iff.1 hj).1
      rw [hlen] at hjl
      have hik : j / 3 < hi - lo := by omega
      have hr : j % 3 < 3 := Nat.mod_lt _ (by omega)
      have e1 : j / 3 * 3 + j % 3 = j := Nat.div_add_mod' j 3
      have h2 := flat_at itC 3 (fun _ => rfl) ((T.drop lo).take (hi - lo)) (j / 3) (by rw [List.length_take, List.length_drop]; omega) (j % 3) hr
      rw [e1, hj] at h2
      have hel : ((T.drop lo).take (hi - lo))[j / 3]! = T[lo + j / 3]! := by
        rw [getElem!_pos _ (j / 3) (by rw [List.length_take, List.length_drop]; omega), getElem!_pos T (lo + j / 3) (by omega), List.getElem_take, List.getElem_drop]
      rw [hel] at h2
      obtain ⟨b, off, hA, hl, c0⟩ := (Row.of_own h).at_ (k := 3) (fun _ => rfl) (by omega) (show lo + j / 3 < T.length by omega)
      injection hA with hA
      injection hA with a1 a2 _
      subst a1 a2
      have := c0 (j % 3) u h2.symm
      rw [← this]
      congr 2
      omega
    by_cases e : c = lo
    · rw [if_pos e]
      have : hi - lo = 0 := by omega
      refine .inr ⟨g, 0, c - lo, rfl, hg, hlen, fun j u hj => ?_⟩
      rw [this] at hj
      simp at hj
    · rw [if_neg e]
      refine .inr ⟨g, lo * 3, c - lo, ?_, hg, hlen, hcell⟩
      show Value.slice (some (Addr.add ⟨g, 0, none⟩ (lo * 3))) _ _ = _
      rw [Addr.add_lit, Nat.zero_add]
theorem run_cut_h (W : World) (A : Option Addr) (n c k : Nat) (hk : k ≤ c) : (Instr.sliceAt 47 (.slice A n c) none (some (.int .i64 (k : Int))) none).run Try.prog W = .ok (.slice (if c = 0 then A else A.map (·.add (0 * 3))) (k - 0) (c - 0)) W := by
  have ht : Try.prog.underlying 47 = some (.slice (Try.prog.elem 47)) := by kernel_rfl
  have hz : (sizeOf (Try.prog.elem 47)).run Try.prog W = .ok 3 W := by kernel_rfl
  rw [run_sliceAt_slice (w := W) _ _ _ _ _ ht, run_slice_h W _ A n c ht .i64 _ (by omega) (by omega), hz]
  simp only [Result.andThen, sliced, Int.toNat_natCast]
theorem run_cut_l (W : World) (A : Option Addr) (n c k : Nat) (hk : k ≤ n) : (Instr.sliceAt 47 (.slice A n c) (some (.int .i64 (k : Int))) none none).run Try.prog W = .ok (.slice (if c = k then A else A.map (·.add (k * 3))) (n - k) (c - k)) W := by
  have ht : Try.prog.underlying 47 = some (.slice (Try.prog.elem 47)) := by kernel_rfl
  have hz : (sizeOf (Try.prog.elem 47)).run Try.prog W = .ok 3 W := by kernel_rfl
  rw [run_sliceAt_slice (w := W) _ _ _ _ _ ht, run_slice_l W _ A n c ht .i64 _ (by omega) (by omega), hz]
  simp only [Result.andThen, sliced, Int.toNat_natCast]
theorem exec_cut {o : Oper} {a : Act} {W : World} {t : TypeId} {x : Operand} {lo hi : Option Operand} (ho : o.op = .slice t x lo hi none) {SV : Value} (h : (Instr.sliceAt t (a.eval x) (lo.map a.eval) (hi.map a.eval) none).run Try.prog W = .ok SV W) : (execOp a.eval o).run Try.prog W = .ok (.value SV) W := by
  unfold execOp
  simp only [ho, Option.map_none]
  rw [Sem.run_bind, h]
  rfl
/-- What the document's put tells. -/
theorem put_any_len {s : Int} {T : List It} {x : It} {k : Nat} (hk : k ≤ T.length) (h1 : ∀ j, j < k → ahB s T[j]! x = true) (h2 : k < T.length → ahB s T[k]! x = false) : insI s T x = T.take k ++ x :: T.drop k := by
  unfold insI
  have e : T.takeWhile (fun y => ahB s y x) = T.take k ∧ T.dropWhile (fun y => ahB s y x) = T.drop k := by
    induction T generalizing k with
    | nil => simp at hk; subst hk; simp
    | cons a r ih =>
      cases k with
      | zero =>
        have := h2 (by simp)
        have e0 : (a :: r)[0]! = a := rfl
        rw [e0] at this
        simp [this]
      | succ k =>
        have h0 := h1 0 (by omega)
        have e0 : (a :: r)[0]! = a := rfl
        rw [e0] at h0
        have hs : ∀ j, j < r.length → (a :: r)[j + 1]! = r[j]! := fun j hj => by rw [getElem!_pos _ (j + 1) (by simp; omega), getElem!_pos r j hj]; rfl
        have hkr : k ≤ r.length := by simpa using hk
        have := ih hkr (fun j hj => by have := h1 (j + 1) (by omega); rwa [hs j (by omega)] at this) (fun hj => by have := h2 (by simp; omega); rwa [hs k hj] at this)
        simp [h0, this.1, this.2]
  rw [e.1, e.2]
/-- What an append leaves: what lay below, and a row of its own beside it. -/
theorem app_kept {W0 W w' : World} {v v' : Value} {n : Nat} {xs : List Value} (hb : Below W0.heap.size W0 W) (ho : W.ownsRow W0.heap.size 37 3 v n xs) (hg : W.grownBy w' v.ownBlock) (hat : v'.ownBlock = v.ownBlock ∨ v'.ownBlock = some W.heap.size) :
    Below W0.heap.size W0 w' ∧ (∀ g cs, W.heap[g]? = some cs → v.ownBlock ≠ some g → w'.heap[g]? = some cs ∧ v'.ownBlock ≠ some g) := by
  refine ⟨hb.grown hg hb.size (fun q hq => (ho.lt q hq).1), fun g cs hc hne => ?_⟩
  have hl : g < W.heap.size := blk_lt hc
  refine ⟨(hg.block g hl (fun e => hne e.symm)).trans hc, ?_⟩
  rcases hat with e | e
  · rw [e]; exact hne
  · rw [e]; intro e2; injection e2 with e2; omega
/-- What a step of the document's heap leaves. -/
structure RP (w : World) (rb : Nat) (A : Option Addr) (c n : Nat) (w' : World) (A' : Option Addr) (c' : Nat) (s : Int) (T' : List It) : Prop where
  h : RH w' rb A' c' s T'
  k : Kept ⟨w, fun q => q = rb⟩ w'
  f : ∀ q, (Value.slice A' T'.length c').ownBlock = some q → (Value.slice A n c).ownBlock = some q ∨ w.heap.size ≤ q
theorem RP.pre {w W0 w' : World} {rb c n c' : Nat} {A A' : Option Addr} {s : Int} {T' : List It} (hb : Below w.heap.size w W0) (h : RP W0 rb A c n w' A' c' s T') : RP w rb A c n w' A' c' s T' where
  h := h.h
  k := ⟨h.k.os.trans hb.os, h.k.tape.trans hb.tape, h.k.output.trans hb.output, Nat.le_trans hb.size h.k.size, fun i hi hx => (h.k.block i (Nat.lt_of_lt_of_le hi hb.size) hx).trans (hb.block i hi)⟩
  f := fun _ hq => (h.f _ hq).imp id (fun h9 => Nat.le_trans hb.size h9)
theorem RP.same {w w' : World} {rb c : Nat} {A : Option Addr} {s : Int} {T : List It} (h : RH w rb A c s T) (hb : Below w.heap.size w w') : RP w rb A c T.length w' A c s T where
  h := h.below hb
  k := ⟨hb.os, hb.tape, hb.output, hb.size, fun i hi _ => hb.block i hi⟩
  f := fun _ hq => .inl hq
/-- The row laid into the heap's box. -/
theorem put_end {W0 W3 : World} {rb c : Nat} {A : Option Addr} {s : Int} {T L : List It} {v3 : Value} {n : Nat} {xs : List Value} (hr : RH W0 rb A c s T) (hb : Below W0.heap.size W0 W3) (ho : W3.ownsRow W0.heap.size 37 3 v3 n xs)
    (hn : n = L.length) (hx : xs = L.flatMap itC) (hlen : L.length ≤ 1000) (hok : ∀ x ∈ L, OkI x) : ∃ A' c', v3 = .slice A' L.length c' ∧ RP W0 rb A c T.length (W3.setCell ⟨rb, 1, none⟩ (.slice A' L.length c')) A' c' s L := by
  subst hn hx
  obtain ⟨A', c', rfl⟩ := own_slice ho
  have hb3 : W3.heap[rb]? = some (.cells #[.int .i64 s, .slice A T.length c] 49 (0, 0)) := (hb.block rb hr.lt).trans hr.box
  refine ⟨A', c', rfl, ⟨?_, ⟨W0.heap.size, ?_⟩, hlen, hr.step, hok⟩, (⟨hb.os, hb.tape, hb.output, hb.size, fun k hk _ => hb.block k hk⟩ : Kept ⟨W0, fun q => q = rb⟩ W3).setCell ⟨rb, 1, none⟩ (.inl rfl) _, fun q hq => .inr (ho.lt q hq).1⟩
  · rw [blk_set hb3]; rfl
  · refine ⟨ho.1, ?_⟩
    rcases ho.2 with h9 | ⟨g, cap, cur, hv, hg, hh, hx⟩
    · exact .inl h9
    · refine .inr ⟨g, cap, cur, hv, hg, (blk_other (by have := hr.lt; omega)).trans hh, hx⟩
/-- A row stays where a block is laid. -/
theorem own_alloc {W V : World} {B n : Nat} {v : Value} {xs : List Value} {o : Obj} (h : W.ownsRow B 37 3 v n xs) (hV : V = W.alloc o) : V.ownsRow B 37 3 v n xs := by
  subst hV
  exact h.alloc o
/-- What Put leaves. -/
theorem put_fin {W0 W3 : World} {rb c : Nat} {A : Option Addr} {s : Int} {T : List It} {x : It} {k : Nat} {v3 : Value} (hr : RH W0 rb A c s T) (hb : Below W0.heap.size W0 W3)
    (ho : W3.ownsRow W0.heap.size 37 3 v3 (0 + (k - 0) + 1 + (T.length - k)) ([] ++ ((T.drop 0).take (k - 0)).flatMap itC ++ itC x ++ ((T.drop k).take (T.length - k)).flatMap itC)) (hk : k ≤ T.length)
    (hi : insI s T x = T.take k ++ x :: T.drop k) (hx : OkI x) (hl : T.length < 1000) :
    ∃ A' c', v3 = .slice A' (insI s T x).length c' ∧ RP W0 rb A c T.length (W3.setCell ⟨rb, 1, none⟩ (.slice A' (insI s T x).length c')) A' c' s (insI s T x) := by
  have hlen : (insI s T x).length = T.length + 1 := by rw [hi]; simp; omega
  refine put_end hr hb ho (by rw [hlen]; omega) ?_ (by omega) ?_
  · rw [hi, List.flatMap_append, List.flatMap_cons, List.take_of_length_le (l := T.drop k) (by simp)]
    simp
  · intro y hy
    rw [hi] at hy
    rcases List.mem_append.1 hy with h | h
    · exact hr.ok _ (List.mem_of_mem_take h)
    · rcases List.mem_cons.1 h with rfl | h
      · exact hx
      · exact hr.ok _ (List.mem_of_mem_drop h)
set_option maxRecDepth 100000 in
set_option maxHeartbeats 8000000 in
theorem rput_new (w : World) (rb c : Nat) (A : Option Addr) (s : Int) (T : List It) (h : RH w rb A c s T) (x : It) (hok : OkI x) (hno : hasB T x.id = false) (hlen : T.length < 1000) :
    Calls Try.prog 13 #[pt rb, itV x] w fun e w' => e = .returned (.int .i64 0) ∧ ∃ A' c', RP w rb A c T.length w' A' c' s (insI s T x) := by
  obtain ⟨w1, hw1⟩ : ∃ w1, w1 = w.alloc (.cells #[.int .i64 x.id, .int .i64 x.base, .int .i64 x.since] 37) := ⟨_, rfl⟩
  have hb1 : Below w.heap.size w w1 := by rw [hw1]; exact (Below.refl _ _).alloc (Nat.le_refl _) _
  have HB1 := Lib.hid hb1
  have HR1 := Lib.hid (h.below hb1)
  obtain ⟨xb, hxb⟩ : ∃ xb, xb = w.heap.size := ⟨_, rfl⟩
  have HX1 : Hid (w1.heap[xb]? = some (.cells #[.int .i64 x.id, .int .i64 x.base, .int .i64 x.since] 37 (0, 0))) := Lib.hid (by rw [hw1, hxb]; exact heap_new w _)
  have HXB := Lib.hid hxb
  have CH := Lib.hid (rhas_any w1 rb c A s T HR1.out x.id)
  rw [hno] at CH
  have HOX := Lib.hid hok
  have HNO := Lib.hid hno
  have hfew := h.few
  have HAH := Lib.hid (fun (k : Nat) (hk : k < T.length) (W : World) (hW : Below w1.heap.size w1 W) => rahead_any W rb c A s T (HR1.out.below hW) T[k]! x (h.ok _ (mem_at hk)) hok)
  have HEL := Lib.hid (fun (k : Nat) (hk : k < T.length) (W : World) (hW : Below w1.heap.size w1 W) => (HR1.out.below hW).at_ hk)
  obtain ⟨_, ⟨b0, b1⟩, ⟨b2, b3⟩⟩ := hok
  have c1 : w1.cell? ⟨rb, 1, none⟩ = some (.slice A T.length c) := cell_blk (i := 1) HR1.out.box rfl
  have hl1 := HR1.out.lt
  have hx1 := HX1.out
  have p0 : w1.cell? ⟨xb, 0, none⟩ = some (.int .i64 x.id) := cell_blk (i := 0) hx1 rfl
  have p1 : w1.cell? ⟨xb, 1, none⟩ = some (.int .i64 x.base) := cell_blk (i := 1) hx1 rfl
  have p2 : w1.cell? ⟨xb, 2, none⟩ = some (.int .i64 x.since) := cell_blk (i := 2) hx1 rfl
  have hlx1 := blk_lt hx1
  clear h hno hb1 hx1
  obtain ⟨xi, xbs, xs⟩ := x
  simp only at b0 b1 b2 b3 p0 p1 p2 CH hw1 HX1
  have k1 : ¬ xbs < 0 := by omega
  have k2 : ¬ xbs > 9 := by omega
  have k3 : ¬ xs < 0 := by omega
  have k4 : ¬ xs > 1099511627776 := by omega
  have k5 : ¬ (T.length : Int) ≥ 1000 := by omega
  go_enter Try.func13, Try.ntmps13
  go_upto_region 1 with fail
  rw [← hw1, ← hxb]
  clear hw1 hxb
  go_wp2_with fail
  refine CH.out.mono ?_
  rintro e w2 ⟨rfl, hw⟩
  subst hw
  go_upto_block 0 with fail
  clear c1 hl1 p0 p1 p2 hlx1
  go_cut [5] from 34 to 54 (fun f5 wx => ∃ k : Nat, k ≤ T.length ∧ f5 = .int .i64 (k : Int) ∧ Hid (insI s T ⟨xi, xbs, xs⟩ = T.take k ++ ⟨xi, xbs, xs⟩ :: T.drop k) ∧ Hid (Below w1.heap.size w1 wx))
  case first =>
    go_wp2_with fail
    go_loopw [5] (fun v wr => ∃ k : Nat, k ≤ T.length ∧ v = .int .i64 (k : Int) ∧ Hid (∀ j, j < k → ahB s T[j]! ⟨xi, xbs, xs⟩ = true) ∧ Hid (Below w1.heap.size w1 wr)) (fun v _ => T.length - (intOf v).toNat)
    case atStart => exact ⟨0, Nat.zero_le _, rfl, Lib.hid (fun j hj => by omega), Lib.hid (Below.refl _ _)⟩
    case round =>
      obtain ⟨k, hk, rfl, HN, HBW⟩ := hrel
      have hk0 : (0 : Int) ≤ (k : Int) := Int.natCast_nonneg _
      by_cases hlt : k < T.length
      · have hlt1 : (k : Int) < (T.length : Int) := by omega
        have hlt2 : decide ((k : Int) < (T.length : Int)) = true := decide_eq_true hlt1
        have hdr : Below w1.heap.size w1 wr.drew := below_draws HBW.out 1
        haveI hNE : Nonempty (WIn (fun W => Below w1.heap.size w1 W)) := ⟨⟨_, hdr⟩⟩
        have f1 : ∀ x : WIn (fun W => Below w1.heap.size w1 W), x.w.cell? ⟨rb, 1, none⟩ = some (.slice A T.length c) := fun x => cell_blk (i := 1) (HR1.out.below x.h).box rfl
        obtain ⟨g, hA, -⟩ := HEL.out k hlt w1 (Below.refl _ _)
        have HEG : Hid (∀ x : WIn (fun W => Below w1.heap.size w1 W), x.w.cell? ⟨g, k * 3, none⟩ = some (.int .i64 T[k]!.id) ∧ x.w.cell? ⟨g, k * 3 + 1, none⟩ = some (.int .i64 T[k]!.base) ∧ x.w.cell? ⟨g, k * 3 + 2, none⟩ = some (.int .i64 T[k]!.since)) := Lib.hid (fun x => by
          obtain ⟨g', hA', q⟩ := HEL.out k hlt x.w x.h
          rw [hA] at hA'
          injection hA' with e1
          injection e1 with e1 _ _
          subst e1
          exact q)
        have f2 : ∀ x : WIn (fun W => Below w1.heap.size w1 W), x.w.cell? ⟨g, k * 3, none⟩ = some (.int .i64 T[k]!.id) := fun x => (HEG.out x).1
        have f3 : ∀ x : WIn (fun W => Below w1.heap.size w1 W), x.w.cell? ⟨g, k * 3 + 1, none⟩ = some (.int .i64 T[k]!.base) := fun x => (HEG.out x).2.1
        have f4 : ∀ x : WIn (fun W => Below w1.heap.size w1 W), x.w.cell? ⟨g, k * 3 + 2, none⟩ = some (.int .i64 T[k]!.since) := fun x => (HEG.out x).2.2
        have f5 : ∀ x : WIn (fun W => Below w1.heap.size w1 W), x.w.cell? ⟨xb, 0, none⟩ = some (.int .i64 xi) := fun x => cell_blk (i := 0) ((x.h.block xb (blk_lt HX1.out)).trans HX1.out) rfl
        have f6 : ∀ x : WIn (fun W => Below w1.heap.size w1 W), x.w.cell? ⟨xb, 1, none⟩ = some (.int .i64 xbs) := fun x => cell_blk (i := 1) ((x.h.block xb (blk_lt HX1.out)).trans HX1.out) rfl
        have f7 : ∀ x : WIn (fun W => Below w1.heap.size w1 W), x.w.cell? ⟨xb, 2, none⟩ = some (.int .i64 xs) := fun x => cell_blk (i := 2) ((x.h.block xb (blk_lt HX1.out)).trans HX1.out) rfl
        have EN := class_call (CC := fun W => Below w1.heap.size w1 W) (fun W W' hW hb => hW.trans (hb.mono hW.size)) (fun W hW => HAH.out k hlt W hW)
        obtain ⟨y, hy⟩ : ∃ y, y = T[k]! := ⟨_, rfl⟩
        rw [← hy] at f2 f3 f4 EN
        have HY := Lib.hid hy
        clear hy HEG
        obtain ⟨yi, yb, ys⟩ := y
        simp only at f2 f3 f4
        have HAE := Lib.hid hA
        rw [hA] at f1
        try rw [hA]
        clear hA
        obtain ⟨tv, htv⟩ : ∃ tv, ahB s ⟨yi, yb, ys⟩ ⟨xi, xbs, xs⟩ = tv := ⟨_, rfl⟩
        rw [htv] at EN
        have HTV := Lib.hid htv
        clear htv
        go_upto_region 8 with fail
        go_cut [52] from 34 to 52 (fun v wx => v = .bool tv ∧ Hid (Below w1.heap.size w1 wx))
        case first =>
          refine wp_region_class (fun W => Below w1.heap.size w1 W) (by kernel_rfl) (by kernel_rfl) hdr ?_
          repeat (go_big_quiet_step (exact EN _))
          refine wpQuiet_nil ?_
          rintro _ ⟨⟨wq, hwq⟩, rfl⟩
          go_wp2_with fail
          go_meet
          exact ⟨rfl, Lib.hid hwq⟩
        case rest =>
          clear HBW hdr f1 f2 f3 f4 f5 f6 f7 EN hNE
          obtain ⟨rfl, HBW⟩ := hcut
          obtain ⟨wv, hwv⟩ : ∃ wv, wv = wc := ⟨_, rfl⟩
          rw [← hwv] at HBW ⊢
          clear hwv
          cases tv with
          | true =>
            have HN2 : Hid (∀ j, j < k + 1 → ahB s T[j]! ⟨xi, xbs, xs⟩ = true) := Lib.hid (fun j hj => by
              by_cases e : j = k
              · rw [e, ← HY.out]; exact HTV.out
              · exact HN.out j (by omega))
            go_wp2_with fail
            go_roundw
            case rel => exact ⟨k + 1, hlt, by go_num, HN2, HBW⟩
            case measure => simp [intOf]; omega
          | false =>
            have HINS := Lib.hid (put_any_len hk HN.out (fun _ => by rw [← HY.out]; exact HTV.out))
            rw [← HAE.out]
            go_wp2_with fail
            go_meet
            exact ⟨k, hk, rfl, HINS, HBW⟩
      · have hlt1 : ¬ (k : Int) < (T.length : Int) := by omega
        have hlt2 : decide ((k : Int) < (T.length : Int)) = false := decide_eq_false hlt1
        have HINS := Lib.hid (put_any_len hk HN.out (fun hh => absurd hh hlt))
        have c1 : wr.cell? ⟨rb, 1, none⟩ = some (.slice A T.length c) := cell_blk (i := 1) (HR1.out.below HBW.out).box rfl
        have hdr : Below w1.heap.size w1 wr.drew := below_draws HBW.out 1
        haveI hNE : Nonempty (WIn (fun W => Below w1.heap.size w1 W)) := ⟨⟨_, hdr⟩⟩
        have f1 : ∀ x : WIn (fun W => Below w1.heap.size w1 W), x.w.cell? ⟨rb, 1, none⟩ = some (.slice A T.length c) := fun x => cell_blk (i := 1) (HR1.out.below x.h).box rfl
        go_upto_region 8 with fail
        refine wp_region_class (fun W => Below w1.heap.size w1 W) (by kernel_rfl) (by kernel_rfl) hdr ?_
        repeat (go_big_quiet_step (fail))
        refine wpQuiet_nil ?_
        rintro _ ⟨⟨wq, hwq⟩, rfl⟩
        go_wp2_with fail
        go_meet
        exact ⟨k, hk, rfl, HINS, Lib.hid hwq⟩
  case rest =>
    obtain ⟨k, hk, rfl, HINS, HBW⟩ := hcut
    obtain ⟨wr, hwr⟩ : ∃ wr, wr = wc := ⟨_, rfl⟩
    rw [← hwr] at HBW ⊢
    clear hwr
    have HS0 : Hid (RH wr rb A c s T) := Lib.hid (HR1.out.below HBW.out)
    have hl := HS0.out.lt
    have c0 : wr.cell? ⟨rb, 0, none⟩ = some (.int .i64 s) := cell_blk (i := 0) HS0.out.box rfl
    have c1 : wr.cell? ⟨rb, 1, none⟩ = some (.slice A T.length c) := cell_blk (i := 1) HS0.out.box rfl
    have hxr := (HBW.out.block xb (blk_lt HX1.out)).trans HX1.out
    have HXR := Lib.hid hxr
    have hlx := blk_lt hxr
    have x0 : wr.cell? ⟨xb, 0, none⟩ = some (.int .i64 xi) := cell_blk (i := 0) hxr rfl
    have x1 : wr.cell? ⟨xb, 1, none⟩ = some (.int .i64 xbs) := cell_blk (i := 1) hxr rfl
    have x2 : wr.cell? ⟨xb, 2, none⟩ = some (.int .i64 xs) := cell_blk (i := 2) hxr rfl
    have S0 : Hid (Below wr.heap.size wr wr.drew) := Lib.hid (below_draws (Below.refl _ _) 1)
    obtain ⟨B0, hrow⟩ := HS0.out.row
    have hcap := (own_cap hrow).1
    have HQ1 := Lib.hid (own_src hrow (Nat.zero_le k) hk)
    have HQ2 := Lib.hid (own_src hrow hk (Nat.le_refl T.length))
    obtain ⟨SV1, hSV1⟩ : ∃ SV1, SV1 = (Value.slice (if c = 0 then A else A.map (·.add (0 * 3))) (k - 0) (c - 0)) := ⟨_, rfl⟩
    obtain ⟨SV2, hSV2⟩ : ∃ SV2, SV2 = (Value.slice (if c = k then A else A.map (·.add (k * 3))) (T.length - k) (c - k)) := ⟨_, rfl⟩
    rw [← hSV1] at HQ1
    rw [← hSV2] at HQ2
    have HC1 : Hid (∀ W, (Instr.sliceAt 47 (.slice A T.length c) none (some (.int .i64 (k : Int))) none).run Try.prog W = .ok SV1 W) := Lib.hid (fun W => by rw [hSV1]; exact run_cut_h W A T.length c k (by omega))
    have HC2 : Hid (∀ W, (Instr.sliceAt 47 (.slice A T.length c) (some (.int .i64 (k : Int))) none none).run Try.prog W = .ok SV2 W) := Lib.hid (fun W => by rw [hSV2]; exact run_cut_l W A T.length c k hk)
    have HI1 := Lib.hid (flat_one (fun x => by intro u hu; simp [itC] at hu; rcases hu with rfl | rfl | rfl <;> rfl) ((T.drop 0).take (k - 0)) : ∀ u ∈ ((T.drop 0).take (k - 0)).flatMap itC, u.oneCell' = true)
    have HI2 := Lib.hid (flat_one (fun x => by intro u hu; simp [itC] at hu; rcases hu with rfl | rfl | rfl <;> rfl) ((T.drop k).take (T.length - k)) : ∀ u ∈ ((T.drop k).take (T.length - k)).flatMap itC, u.oneCell' = true)
    clear hSV1 hSV2 hrow hxr
    have hk0 : (0 : Int) ≤ (k : Int) := Int.natCast_nonneg _
    go_upto_region 10 with fail
    refine wp_region_T (S := fun W => Below wr.heap.size wr W) (z := 21) (by kernel_rfl) ?_
    refine anyT_take (i := 0) 0 [] (v := ?_) rfl (by kernel_rfl) (by kernel_rfl) (by kernel_rfl) (by kernel_rfl) (fun _ _ _ h => h) S0.out (by rfl) ?_ ?_
    rotate_left
    · skip
      intro W9 hSw
      have c0' := (hSw.cell (p := ⟨rb, 0, none⟩) hl).trans c0
      have c1' := (hSw.cell (p := ⟨rb, 1, none⟩) hl).trans c1
      have x0' := (hSw.cell (p := ⟨xb, 0, none⟩) hlx).trans x0
      have x1' := (hSw.cell (p := ⟨xb, 1, none⟩) hlx).trans x1
      have x2' := (hSw.cell (p := ⟨xb, 2, none⟩) hlx).trans x2
      have l0' := Nat.lt_of_lt_of_le hl hSw.size
      have lx' := Nat.lt_of_lt_of_le hlx hSw.size
      clear hSw
      go_simp
      try with_reducible rfl
    simp only [Act.put, List.setIfInBounds_toArray]
    try simp only [List.set]
    try simp only [List.set]
    try simp only [List.getElem_toArray]
    repeat (first | simp only [List.getElem_cons_zero] | simp only [List.getElem_cons_succ])
    try simp only [List.set]
    refine anyT_take (i := 2) 2 [] (v := ?_) rfl (by kernel_rfl) (by kernel_rfl) (by kernel_rfl) (by kernel_rfl) (fun _ _ _ h => h) S0.out (by rfl) ?_ ?_
    rotate_left
    · skip
      intro W9 hSw
      have c0' := (hSw.cell (p := ⟨rb, 0, none⟩) hl).trans c0
      have c1' := (hSw.cell (p := ⟨rb, 1, none⟩) hl).trans c1
      have x0' := (hSw.cell (p := ⟨xb, 0, none⟩) hlx).trans x0
      have x1' := (hSw.cell (p := ⟨xb, 1, none⟩) hlx).trans x1
      have x2' := (hSw.cell (p := ⟨xb, 2, none⟩) hlx).trans x2
      have l0' := Nat.lt_of_lt_of_le hl hSw.size
      have lx' := Nat.lt_of_lt_of_le hlx hSw.size
      clear hSw
      go_simp
      try with_reducible rfl
    simp only [Act.put, List.setIfInBounds_toArray]
    try simp only [List.set]
    try simp only [List.set]
    try simp only [List.getElem_toArray]
    repeat (first | simp only [List.getElem_cons_zero] | simp only [List.getElem_cons_succ])
    try simp only [List.set]
    refine anyT_take (i := 3) 3 [] (v := ?_) rfl (by kernel_rfl) (by kernel_rfl) (by kernel_rfl) (by kernel_rfl) (fun _ _ _ h => h) S0.out (by rfl) ?_ ?_
    rotate_left
    · skip
      intro W9 hSw
      have c0' := (hSw.cell (p := ⟨rb, 0, none⟩) hl).trans c0
      have c1' := (hSw.cell (p := ⟨rb, 1, none⟩) hl).trans c1
      have x0' := (hSw.cell (p := ⟨xb, 0, none⟩) hlx).trans x0
      have x1' := (hSw.cell (p := ⟨xb, 1, none⟩) hlx).trans x1
      have x2' := (hSw.cell (p := ⟨xb, 2, none⟩) hlx).trans x2
      have l0' := Nat.lt_of_lt_of_le hl hSw.size
      have lx' := Nat.lt_of_lt_of_le hlx hSw.size
      clear hSw
      go_simp
      try with_reducible rfl
    simp only [Act.put, List.setIfInBounds_toArray]
    try simp only [List.set]
    try simp only [List.set]
    try simp only [List.getElem_toArray]
    repeat (first | simp only [List.getElem_cons_zero] | simp only [List.getElem_cons_succ])
    try simp only [List.set]
    refine anyT_take (i := 4) 4 [] (v := ?_) rfl (by kernel_rfl) (by kernel_rfl) (by kernel_rfl) (by kernel_rfl) (fun _ _ _ h => h) S0.out (by rfl) ?_ ?_
    rotate_left
    · skip
      intro W9 hSw
      have c0' := (hSw.cell (p := ⟨rb, 0, none⟩) hl).trans c0
      have c1' := (hSw.cell (p := ⟨rb, 1, none⟩) hl).trans c1
      have x0' := (hSw.cell (p := ⟨xb, 0, none⟩) hlx).trans x0
      have x1' := (hSw.cell (p := ⟨xb, 1, none⟩) hlx).trans x1
      have x2' := (hSw.cell (p := ⟨xb, 2, none⟩) hlx).trans x2
      have l0' := Nat.lt_of_lt_of_le hl hSw.size
      have lx' := Nat.lt_of_lt_of_le hlx hSw.size
      clear hSw
      go_simp
      try with_reducible rfl
    simp only [Act.put, List.setIfInBounds_toArray]
    try simp only [List.set]
    try simp only [List.set]
    try simp only [List.getElem_toArray]
    repeat (first | simp only [List.getElem_cons_zero] | simp only [List.getElem_cons_succ])
    try simp only [List.set]
    refine anyT_take (i := 5) 5 [] (v := ?_) rfl (by kernel_rfl) (by kernel_rfl) (by kernel_rfl) (by kernel_rfl) (fun _ _ _ h => h) S0.out (by rfl) ?_ ?_
    rotate_left
    · skip
      intro W9 hSw
      have c0' := (hSw.cell (p := ⟨rb, 0, none⟩) hl).trans c0
      have c1' := (hSw.cell (p := ⟨rb, 1, none⟩) hl).trans c1
      have x0' := (hSw.cell (p := ⟨xb, 0, none⟩) hlx).trans x0
      have x1' := (hSw.cell (p := ⟨xb, 1, none⟩) hlx).trans x1
      have x2' := (hSw.cell (p := ⟨xb, 2, none⟩) hlx).trans x2
      have l0' := Nat.lt_of_lt_of_le hl hSw.size
      have lx' := Nat.lt_of_lt_of_le hlx hSw.size
      clear hSw
      go_simp
      try with_reducible rfl
    simp only [Act.put, List.setIfInBounds_toArray]
    try simp only [List.set]
    try simp only [List.set]
    try simp only [List.getElem_toArray]
    repeat (first | simp only [List.getElem_cons_zero] | simp only [List.getElem_cons_succ])
    try simp only [List.set]
    refine anyT_take (i := 6) 6 [] (v := ?_) rfl (by kernel_rfl) (by kernel_rfl) (by kernel_rfl) (by kernel_rfl) (fun _ _ _ h => h) S0.out (by rfl) ?_ ?_
    rotate_left
    · skip
      intro W9 hSw
      have c0' := (hSw.cell (p := ⟨rb, 0, none⟩) hl).trans c0
      have c1' := (hSw.cell (p := ⟨rb, 1, none⟩) hl).trans c1
      have x0' := (hSw.cell (p := ⟨xb, 0, none⟩) hlx).trans x0
      have x1' := (hSw.cell (p := ⟨xb, 1, none⟩) hlx).trans x1
      have x2' := (hSw.cell (p := ⟨xb, 2, none⟩) hlx).trans x2
      have l0' := Nat.lt_of_lt_of_le hl hSw.size
      have lx' := Nat.lt_of_lt_of_le hlx hSw.size
      clear hSw
      go_simp
      try with_reducible rfl
    simp only [Act.put, List.setIfInBounds_toArray]
    try simp only [List.set]
    try simp only [List.set]
    try simp only [List.getElem_toArray]
    repeat (first | simp only [List.getElem_cons_zero] | simp only [List.getElem_cons_succ])
    try simp only [List.set]
    refine anyT_take (i := 7) 7 [] (v := SV1) rfl (by kernel_rfl) (by kernel_rfl) (by kernel_rfl) (by kernel_rfl) (fun _ _ _ h => h) S0.out (by rfl) ?_ ?_
    · skip
      intro W9 hSw
      exact exec_cut (t := 47) (x := .tmp 60) (lo := none) (hi := some (.tmp 61)) rfl (HC1.out W9)
    simp only [Act.put, List.setIfInBounds_toArray]
    try simp only [List.set]
    try simp only [List.set]
    try simp only [List.getElem_toArray]
    repeat (first | simp only [List.getElem_cons_zero] | simp only [List.getElem_cons_succ])
    try simp only [List.set]
    refine anyT_take (i := 9) 9 [] (v := ?_) rfl (by kernel_rfl) (by kernel_rfl) (by kernel_rfl) (by kernel_rfl) (fun _ _ _ h => h) S0.out (by rfl) ?_ ?_
    rotate_left
    · skip
      intro W9 hSw
      have c0' := (hSw.cell (p := ⟨rb, 0, none⟩) hl).trans c0
      have c1' := (hSw.cell (p := ⟨rb, 1, none⟩) hl).trans c1
      have x0' := (hSw.cell (p := ⟨xb, 0, none⟩) hlx).trans x0
      have x1' := (hSw.cell (p := ⟨xb, 1, none⟩) hlx).trans x1
      have x2' := (hSw.cell (p := ⟨xb, 2, none⟩) hlx).trans x2
      have l0' := Nat.lt_of_lt_of_le hl hSw.size
      have lx' := Nat.lt_of_lt_of_le hlx hSw.size
      clear hSw
      go_simp
      try with_reducible rfl
    simp only [Act.put, List.setIfInBounds_toArray]
    try simp only [List.set]
    try simp only [List.set]
    try simp only [List.getElem_toArray]
    repeat (first | simp only [List.getElem_cons_zero] | simp only [List.getElem_cons_succ])
    try simp only [List.set]
    refine anyT_take (i := 12) 12 [] (v := ?_) rfl (by kernel_rfl) (by kernel_rfl) (by kernel_rfl) (by kernel_rfl) (fun _ _ _ h => h) S0.out (by rfl) ?_ ?_
    rotate_left
    · skip
      intro W9 hSw
      have c0' := (hSw.cell (p := ⟨rb, 0, none⟩) hl).trans c0
      have c1' := (hSw.cell (p := ⟨rb, 1, none⟩) hl).trans c1
      have x0' := (hSw.cell (p := ⟨xb, 0, none⟩) hlx).trans x0
      have x1' := (hSw.cell (p := ⟨xb, 1, none⟩) hlx).trans x1
      have x2' := (hSw.cell (p := ⟨xb, 2, none⟩) hlx).trans x2
      have l0' := Nat.lt_of_lt_of_le hl hSw.size
      have lx' := Nat.lt_of_lt_of_le hlx hSw.size
      clear hSw
      go_simp
      try with_reducible rfl
    simp only [Act.put, List.setIfInBounds_toArray]
    try simp only [List.set]
    try simp only [List.set]
    try simp only [List.getElem_toArray]
    repeat (first | simp only [List.getElem_cons_zero] | simp only [List.getElem_cons_succ])
    try simp only [List.set]
    refine anyT_take (i := 13) 13 [] (v := ?_) rfl (by kernel_rfl) (by kernel_rfl) (by kernel_rfl) (by kernel_rfl) (fun _ _ _ h => h) S0.out (by rfl) ?_ ?_
    rotate_left
    · skip
      intro W9 hSw
      have c0' := (hSw.cell (p := ⟨rb, 0, none⟩) hl).trans c0
      have c1' := (hSw.cell (p := ⟨rb, 1, none⟩) hl).trans c1
      have x0' := (hSw.cell (p := ⟨xb, 0, none⟩) hlx).trans x0
      have x1' := (hSw.cell (p := ⟨xb, 1, none⟩) hlx).trans x1
      have x2' := (hSw.cell (p := ⟨xb, 2, none⟩) hlx).trans x2
      have l0' := Nat.lt_of_lt_of_le hl hSw.size
      have lx' := Nat.lt_of_lt_of_le hlx hSw.size
      clear hSw
      go_simp
      try with_reducible rfl
    simp only [Act.put, List.setIfInBounds_toArray]
    try simp only [List.set]
    try simp only [List.set]
    try simp only [List.getElem_toArray]
    repeat (first | simp only [List.getElem_cons_zero] | simp only [List.getElem_cons_succ])
    try simp only [List.set]
    refine anyT_take (i := 14) 14 [] (v := ?_) rfl (by kernel_rfl) (by kernel_rfl) (by kernel_rfl) (by kernel_rfl) (fun _ _ _ h => h) S0.out (by rfl) ?_ ?_
    rotate_left
    · skip
      intro W9 hSw
      have c0' := (hSw.cell (p := ⟨rb, 0, none⟩) hl).trans c0
      have c1' := (hSw.cell (p := ⟨rb, 1, none⟩) hl).trans c1
      have x0' := (hSw.cell (p := ⟨xb, 0, none⟩) hlx).trans x0
      have x1' := (hSw.cell (p := ⟨xb, 1, none⟩) hlx).trans x1
      have x2' := (hSw.cell (p := ⟨xb, 2, none⟩) hlx).trans x2
      have l0' := Nat.lt_of_lt_of_le hl hSw.size
      have lx' := Nat.lt_of_lt_of_le hlx hSw.size
      clear hSw
      go_simp
      try with_reducible rfl
    simp only [Act.put, List.setIfInBounds_toArray]
    try simp only [List.set]
    try simp only [List.set]
    try simp only [List.getElem_toArray]
    repeat (first | simp only [List.getElem_cons_zero] | simp only [List.getElem_cons_succ])
    try simp only [List.set]
    refine anyT_take (i := 15) 15 [] (v := ?_) rfl (by kernel_rfl) (by kernel_rfl) (by kernel_rfl) (by kernel_rfl) (fun _ _ _ h => h) S0.out (by rfl) ?_ ?_
    rotate_left
    · skip
      intro W9 hSw
      have c0' := (hSw.cell (p := ⟨rb, 0, none⟩) hl).trans c0
      have c1' := (hSw.cell (p := ⟨rb, 1, none⟩) hl).trans c1
      have x0' := (hSw.cell (p := ⟨xb, 0, none⟩) hlx).trans x0
      have x1' := (hSw.cell (p := ⟨xb, 1, none⟩) hlx).trans x1
      have x2' := (hSw.cell (p := ⟨xb, 2, none⟩) hlx).trans x2
      have l0' := Nat.lt_of_lt_of_le hl hSw.size
      have lx' := Nat.lt_of_lt_of_le hlx hSw.size
      clear hSw
      go_simp
      try with_reducible rfl
    simp only [Act.put, List.setIfInBounds_toArray]
    try simp only [List.set]
    try simp only [List.set]
    try simp only [List.getElem_toArray]
    repeat (first | simp only [List.getElem_cons_zero] | simp only [List.getElem_cons_succ])
    try simp only [List.set]
    refine anyT_take (i := 16) 16 [] (v := ?_) rfl (by kernel_rfl) (by kernel_rfl) (by kernel_rfl) (by kernel_rfl) (fun _ _ _ h => h) S0.out (by rfl) ?_ ?_
    rotate_left
    · skip
      intro W9 hSw
      have c0' := (hSw.cell (p := ⟨rb, 0, none⟩) hl).trans c0
      have c1' := (hSw.cell (p := ⟨rb, 1, none⟩) hl).trans c1
      have x0' := (hSw.cell (p := ⟨xb, 0, none⟩) hlx).trans x0
      have x1' := (hSw.cell (p := ⟨xb, 1, none⟩) hlx).trans x1
      have x2' := (hSw.cell (p := ⟨xb, 2, none⟩) hlx).trans x2
      have l0' := Nat.lt_of_lt_of_le hl hSw.size
      have lx' := Nat.lt_of_lt_of_le hlx hSw.size
      clear hSw
      go_simp
      try with_reducible rfl
    simp only [Act.put, List.setIfInBounds_toArray]
    try simp only [List.set]
    try simp only [List.set]
    try simp only [List.getElem_toArray]
    repeat (first | simp only [List.getElem_cons_zero] | simp only [List.getElem_cons_succ])
    try simp only [List.set]
    refine anyT_take (i := 17) 17 [] (v := SV2) rfl (by kernel_rfl) (by kernel_rfl) (by kernel_rfl) (by kernel_rfl) (fun _ _ _ h => h) S0.out (by rfl) ?_ ?_
    · skip
      intro W9 hSw
      exact exec_cut (t := 47) (x := .tmp 70) (lo := some (.tmp 71)) (hi := none) rfl (HC2.out W9)
    simp only [Act.put, List.setIfInBounds_toArray]
    try simp only [List.set]
    try simp only [List.set]
    try simp only [List.getElem_toArray]
    repeat (first | simp only [List.getElem_cons_zero] | simp only [List.getElem_cons_succ])
    try simp only [List.set]
    clear c0 c1 x0 x1 x2 hcap
    refine anyT_ready (rs := [1, 10]) (by kernel_rfl) (by simp) (AllT.cons rfl (by rfl) (fun K hK => ?_) (AllT.cons rfl (by rfl) (fun K hK => ?_) AllT.nil))
    · have HK := Lib.hid hK
      clear hK
      unfold Oper.wp
      go_simp
      obtain ⟨Wa, hWa⟩ : ∃ Wa, Wa = (wr.alloc (.cells #[] 37)).drew := ⟨_, rfl⟩
      have hWab : Below wr.heap.size wr Wa := by rw [hWa]; exact below_draws (((Below.refl wr.heap.size wr)).alloc ((Below.refl wr.heap.size wr)).size (.cells #[] 37)) 1
      have HBa := Lib.hid hWab
      have hWan : Wa.heap[wr.heap.size]? = some (.cells #[] 37 (0, 0)) := by rw [hWa]; exact heap_new wr _
      have HNWa := Lib.hid hWan
      rw [← hWa]
      clear hWab hWan
      have HO0 : Hid (Wa.ownsRow wr.heap.size 37 3 (.slice (some ⟨wr.heap.size, 0, none⟩) 0 0) 0 []) := Lib.hid ⟨rfl, .inr ⟨wr.heap.size, 0, #[], rfl, Nat.le_refl _, HNWa.out, Nat.le_refl _, Nat.zero_le _, rfl, rfl⟩⟩
      clear hWa
      refine HK.out _ _ (fun _ => HBa.out) ?_
      clear HK K
      refine anyT_ready (rs := [8, 10]) (by kernel_rfl) (by simp) (AllT.cons rfl (by rfl) (fun K hK => ?_) (AllT.cons rfl (by rfl) (fun K hK => ?_) AllT.nil))
      · have HK := Lib.hid hK
        clear hK
        refine wp_app (.tmp 56) (.tmp 62) rfl wr.heap.size _ 0 [] rfl HO0.out SV1 (k - 0) _ rfl (HQ1.out.below HBa.out) HI1.out (by omega) HBa.out.size ?_
        intro v1 wc1 ho1 hg1 hat1
        obtain ⟨hb1c, hx1c⟩ := app_kept HBa.out HO0.out hg1 hat1
        have HBb := Lib.hid hb1c
        have HOb := Lib.hid ho1
        clear ho1 hg1 hat1 hb1c hx1c HO0
        refine HK.out _ _ (fun _ => HBb.out) ?_
        clear HK K
        refine anyT_one' (i := 10) (by kernel_rfl) rfl (by rfl) (fun K hK => ?_)
        have HK := Lib.hid hK
        clear hK
        unfold Oper.wp
        go_simp
        obtain ⟨Wc, hWc⟩ : ∃ Wc, Wc = (wc1.alloc (.cells #[.int .i64 xi, .int .i64 xbs, .int .i64 xs] 37)) := ⟨_, rfl⟩
        have hWcb : Below wr.heap.size wr Wc := by rw [hWc]; exact (HBb.out).alloc (HBb.out).size (.cells #[.int .i64 xi, .int .i64 xbs, .int .i64 xs] 37)
        have HBc := Lib.hid hWcb
        have hWcn : Wc.heap[wc1.heap.size]? = some (.cells #[.int .i64 xi, .int .i64 xbs, .int .i64 xs] 37 (0, 0)) := by rw [hWc]; exact heap_new wc1 _
        have HNWc := Lib.hid hWcn
        rw [← hWc]
        clear hWcb hWcn
        have HO1 := Lib.hid (own_alloc HOb.out hWc)
        obtain ⟨gX, hgX⟩ : ∃ gX, gX = wc1.heap.size := ⟨_, rfl⟩
        have HX : Hid (Wc.heap[gX]? = some (.cells #[.int .i64 xi, .int .i64 xbs, .int .i64 xs] 37 (0, 0)) ∧ v1.ownBlock ≠ some gX) := Lib.hid ⟨by rw [hgX]; exact HNWc.out, fun e => by have := (HOb.out.lt _ e).2; omega⟩
        rw [← hgX]
        clear hgX hWc HNWc
        refine HK.out _ _ (fun _ => HBc.out) ?_
        clear HK K
        refine anyT_one' (i := 11) (by kernel_rfl) rfl (by rfl) (fun K hK => ?_)
        have HK := Lib.hid hK
        clear hK
        refine wp_app (.tmp 63) (.tmp 65) rfl wr.heap.size v1 _ _ rfl HO1.out (.slice (some ⟨gX, 0, none⟩) 1 1) 1 (itC ⟨xi, xbs, xs⟩) rfl (.inr ⟨gX, 0, 1, rfl, blk_lt HX.out.1, rfl, fun j u hj => by rw [Nat.zero_add]; exact cell_blk HX.out.1 (by simpa [itC] using hj)⟩) (by intro u hu; simp [itC] at hu; rcases hu with rfl | rfl | rfl <;> rfl) (by omega) HBc.out.size ?_
        intro v2 w2 ho2 hg2 hat2
        have HB2 := Lib.hid (app_kept HBc.out HO1.out hg2 hat2).1
        have HO2 := Lib.hid ho2
        clear ho2 hg2 hat2 HO1 HX
        refine HK.out _ _ (fun _ => HB2.out) ?_
        clear HK K
        refine anyT_one' (i := 18) (by kernel_rfl) rfl (by rfl) (fun K hK => ?_)
        have HK := Lib.hid hK
        clear hK
        refine wp_app (.tmp 66) (.tmp 72) rfl wr.heap.size v2 _ _ rfl HO2.out SV2 (T.length - k) _ rfl (HQ2.out.below HB2.out) HI2.out (by omega) HB2.out.size ?_
        intro v3 w3 ho3 hg3 hat3
        have HB3 := Lib.hid (app_kept HB2.out HO2.out hg3 hat3).1
        obtain ⟨A', c', rfl, hRH⟩ := put_fin HS0.out HB3.out ho3 hk HINS.out HOX.out hlen
        have HRH := Lib.hid (hRH.pre (HB1.out.trans (HBW.out.mono HB1.out.size)))
        clear ho3 hg3 hat3 hRH HO2
        refine HK.out _ _ (fun _ => HB3.out) ?_
        clear HK K
        refine anyT_one' (i := 19) (by kernel_rfl) rfl (by rfl) (fun K hK => ?_)
        have HK := Lib.hid hK
        clear hK
        unfold Oper.wp
        go_simp
        refine HK.out _ _ (fun _ => HB3.out) ?_
        clear HK K
        refine anyT_one' (i := 20) (by kernel_rfl) rfl (by rfl) (fun K hK => ?_)
        have HK := Lib.hid hK
        clear hK
        unfold Oper.wp
        go_simp
        refine HK.out _ _ (fun _ => HB3.out) ?_
        clear HK K
        have hb3 : w3.heap[rb]? = some (.cells #[.int .i64 s, .slice A T.length c] 49 (0, 0)) := (HB3.out.block rb hl).trans HS0.out.box
        have c13 : w3.cell? ⟨rb, 1, none⟩ = some (.slice A T.length c) := cell_blk (i := 1) hb3 rfl
        have f13 := frozen_blk (i := 1) hb3
        refine anyT_one' (i := 21) (by kernel_rfl) rfl (by rfl) (fun K hK => ?_)
        have HK := Lib.hid hK
        clear hK
        unfold Oper.wp
        go_simp
        refine HK.out _ _ (fun h => absurd rfl h) ?_
        clear HK K c13 f13 hb3
        refine anyT_done (by kernel_rfl) ?_ _
        go_wp2_with fail
        go_ret
        exact ⟨rfl, A', c', HRH.out⟩
      · have HK := Lib.hid hK
        clear hK
        unfold Oper.wp
        go_simp
        obtain ⟨Wb, hWb⟩ : ∃ Wb, Wb = (Wa.alloc (.cells #[.int .i64 xi, .int .i64 xbs, .int .i64 xs] 37)) := ⟨_, rfl⟩
        have hWbb : Below wr.heap.size wr Wb := by rw [hWb]; exact (HBa.out).alloc (HBa.out).size (.cells #[.int .i64 xi, .int .i64 xbs, .int .i64 xs] 37)
        have HBb := Lib.hid hWbb
        have hWbn : Wb.heap[Wa.heap.size]? = some (.cells #[.int .i64 xi, .int .i64 xbs, .int .i64 xs] 37 (0, 0)) := by rw [hWb]; exact heap_new Wa _
        have HNWb := Lib.hid hWbn
        rw [← hWb]
        clear hWbb hWbn
        have HO9 := Lib.hid (own_alloc HO0.out hWb)
        clear HO0 hWb
        have HO0 := HO9
        clear HO9
        refine HK.out _ _ (fun _ => HBb.out) ?_
        clear HK K
        refine anyT_one' (i := 8) (by kernel_rfl) rfl (by rfl) (fun K hK => ?_)
        have HK := Lib.hid hK
        clear hK
        refine wp_app (.tmp 56) (.tmp 62) rfl wr.heap.size _ 0 [] rfl HO0.out SV1 (k - 0) _ rfl (HQ1.out.below HBb.out) HI1.out (by omega) HBb.out.size ?_
        intro v1 wc1 ho1 hg1 hat1
        obtain ⟨hb1c, hx1c⟩ := app_kept HBb.out HO0.out hg1 hat1
        have HBc := Lib.hid hb1c
        have HO1 := Lib.hid ho1
        obtain ⟨gX, hgX⟩ : ∃ gX, gX = Wa.heap.size := ⟨_, rfl⟩
        have HX : Hid (wc1.heap[gX]? = some (.cells #[.int .i64 xi, .int .i64 xbs, .int .i64 xs] 37 (0, 0)) ∧ v1.ownBlock ≠ some gX) := Lib.hid (by rw [hgX]; exact hx1c _ _ HNWb.out (fun e => by have e := Option.some.inj e; dsimp only at e; have := blk_lt HNWa.out; omega))
        rw [← hgX]
        clear hgX ho1 hg1 hat1 hb1c hx1c HO0
        refine HK.out _ _ (fun _ => HBc.out) ?_
        clear HK K
        refine anyT_one' (i := 11) (by kernel_rfl) rfl (by rfl) (fun K hK => ?_)
        have HK := Lib.hid hK
        clear hK
        refine wp_app (.tmp 63) (.tmp 65) rfl wr.heap.size v1 _ _ rfl HO1.out (.slice (some ⟨gX, 0, none⟩) 1 1) 1 (itC ⟨xi, xbs, xs⟩) rfl (.inr ⟨gX, 0, 1, rfl, blk_lt HX.out.1, rfl, fun j u hj => by rw [Nat.zero_add]; exact cell_blk HX.out.1 (by simpa [itC] using hj)⟩) (by intro u hu; simp [itC] at hu; rcases hu with rfl | rfl | rfl <;> rfl) (by omega) HBc.out.size ?_
        intro v2 w2 ho2 hg2 hat2
        have HB2 := Lib.hid (app_kept HBc.out HO1.out hg2 hat2).1
        have HO2 := Lib.hid ho2
        clear ho2 hg2 hat2 HO1 HX
        refine HK.out _ _ (fun _ => HB2.out) ?_
        clear HK K
        refine anyT_one' (i := 18) (by kernel_rfl) rfl (by rfl) (fun K hK => ?_)
        have HK := Lib.hid hK
        clear hK
        refine wp_app (.tmp 66) (.tmp 72) rfl wr.heap.size v2 _ _ rfl HO2.out SV2 (T.length - k) _ rfl (HQ2.out.below HB2.out) HI2.out (by omega) HB2.out.size ?_
        intro v3 w3 ho3 hg3 hat3
        have HB3 := Lib.hid (app_kept HB2.out HO2.out hg3 hat3).1
        obtain ⟨A', c', rfl, hRH⟩ := put_fin HS0.out HB3.out ho3 hk HINS.out HOX.out hlen
        have HRH := Lib.hid (hRH.pre (HB1.out.trans (HBW.out.mono HB1.out.size)))
        clear ho3 hg3 hat3 hRH HO2
        refine HK.out _ _ (fun _ => HB3.out) ?_
        clear HK K
        refine anyT_one' (i := 19) (by kernel_rfl) rfl (by rfl) (fun K hK => ?_)
        have HK := Lib.hid hK
        clear hK
        unfold Oper.wp
        go_simp
        refine HK.out _ _ (fun _ => HB3.out) ?_
        clear HK K
        refine anyT_one' (i := 20) (by kernel_rfl) rfl (by rfl) (fun K hK => ?_)
        have HK := Lib.hid hK
        clear hK
        unfold Oper.wp
        go_simp
        refine HK.out _ _ (fun _ => HB3.out) ?_
        clear HK K
        have hb3 : w3.heap[rb]? = some (.cells #[.int .i64 s, .slice A T.length c] 49 (0, 0)) := (HB3.out.block rb hl).trans HS0.out.box
        have c13 : w3.cell? ⟨rb, 1, none⟩ = some (.slice A T.length c) := cell_blk (i := 1) hb3 rfl
        have f13 := frozen_blk (i := 1) hb3
        refine anyT_one' (i := 21) (by kernel_rfl) rfl (by rfl) (fun K hK => ?_)
        have HK := Lib.hid hK
        clear hK
        unfold Oper.wp
        go_simp
        refine HK.out _ _ (fun h => absurd rfl h) ?_
        clear HK K c13 f13 hb3
        refine anyT_done (by kernel_rfl) ?_ _
        go_wp2_with fail
        go_ret
        exact ⟨rfl, A', c', HRH.out⟩
    · have HK := Lib.hid hK
      clear hK
      unfold Oper.wp
      go_simp
      obtain ⟨Wa, hWa⟩ : ∃ Wa, Wa = (wr.alloc (.cells #[.int .i64 xi, .int .i64 xbs, .int .i64 xs] 37)).drew := ⟨_, rfl⟩
      have hWab : Below wr.heap.size wr Wa := by rw [hWa]; exact below_draws (((Below.refl wr.heap.size wr)).alloc ((Below.refl wr.heap.size wr)).size (.cells #[.int .i64 xi, .int .i64 xbs, .int .i64 xs] 37)) 1
      have HBa := Lib.hid hWab
      have hWan : Wa.heap[wr.heap.size]? = some (.cells #[.int .i64 xi, .int .i64 xbs, .int .i64 xs] 37 (0, 0)) := by rw [hWa]; exact heap_new wr _
      have HNWa := Lib.hid hWan
      rw [← hWa]
      clear hWab hWan
      clear hWa
      refine HK.out _ _ (fun _ => HBa.out) ?_
      clear HK K
      refine anyT_one' (i := 1) (by kernel_rfl) rfl (by rfl) (fun K hK => ?_)
      have HK := Lib.hid hK
      clear hK
      unfold Oper.wp
      go_simp
      obtain ⟨Wb, hWb⟩ : ∃ Wb, Wb = (Wa.alloc (.cells #[] 37)) := ⟨_, rfl⟩
      have hWbb : Below wr.heap.size wr Wb := by rw [hWb]; exact (HBa.out).alloc (HBa.out).size (.cells #[] 37)
      have HBb := Lib.hid hWbb
      have hWbn : Wb.heap[Wa.heap.size]? = some (.cells #[] 37 (0, 0)) := by rw [hWb]; exact heap_new Wa _
      have HNWb := Lib.hid hWbn
      rw [← hWb]
      clear hWbb hWbn
      have HO0 : Hid (Wb.ownsRow wr.heap.size 37 3 (.slice (some ⟨Wa.heap.size, 0, none⟩) 0 0) 0 []) := Lib.hid ⟨rfl, .inr ⟨Wa.heap.size, 0, #[], rfl, HBa.out.size, HNWb.out, Nat.le_refl _, Nat.zero_le _, rfl, rfl⟩⟩
      refine HK.out _ _ (fun _ => HBb.out) ?_
      clear HK K
      refine anyT_one' (i := 8) (by kernel_rfl) rfl (by rfl) (fun K hK => ?_)
      have HK := Lib.hid hK
      clear hK
      refine wp_app (.tmp 56) (.tmp 62) rfl wr.heap.size _ 0 [] rfl HO0.out SV1 (k - 0) _ rfl (HQ1.out.below HBb.out) HI1.out (by omega) HBb.out.size ?_
      intro v1 wc1 ho1 hg1 hat1
      obtain ⟨hb1c, hx1c⟩ := app_kept HBb.out HO0.out hg1 hat1
      have HBc := Lib.hid hb1c
      have HO1 := Lib.hid ho1
      obtain ⟨gX, hgX⟩ : ∃ gX, gX = wr.heap.size := ⟨_, rfl⟩
      have HX : Hid (wc1.heap[gX]? = some (.cells #[.int .i64 xi, .int .i64 xbs, .int .i64 xs] 37 (0, 0)) ∧ v1.ownBlock ≠ some gX) := Lib.hid (by rw [hgX]; exact hx1c _ _ ((by rw [hWb]; exact (Below.heap_alloc _ _ _ (blk_lt HNWa.out)).trans HNWa.out) : Wb.heap[wr.heap.size]? = _) (fun e => by have e := Option.some.inj e; dsimp only at e; have := blk_lt HNWa.out; omega))
      rw [← hgX]
      clear hgX ho1 hg1 hat1 hb1c hx1c HO0
      refine HK.out _ _ (fun _ => HBc.out) ?_
      clear HK K
      refine anyT_one' (i := 11) (by kernel_rfl) rfl (by rfl) (fun K hK => ?_)
      have HK := Lib.hid hK
      clear hK
      refine wp_app (.tmp 63) (.tmp 65) rfl wr.heap.size v1 _ _ rfl HO1.out (.slice (some ⟨gX, 0, none⟩) 1 1) 1 (itC ⟨xi, xbs, xs⟩) rfl (.inr ⟨gX, 0, 1, rfl, blk_lt HX.out.1, rfl, fun j u hj => by rw [Nat.zero_add]; exact cell_blk HX.out.1 (by simpa [itC] using hj)⟩) (by intro u hu; simp [itC] at hu; rcases hu with rfl | rfl | rfl <;> rfl) (by omega) HBc.out.size ?_
      intro v2 w2 ho2 hg2 hat2
      have HB2 := Lib.hid (app_kept HBc.out HO1.out hg2 hat2).1
      have HO2 := Lib.hid ho2
      clear ho2 hg2 hat2 HO1 HX
      refine HK.out _ _ (fun _ => HB2.out) ?_
      clear HK K
      refine anyT_one' (i := 18) (by kernel_rfl) rfl (by rfl) (fun K hK => ?_)
      have HK := Lib.hid hK
      clear hK
      refine wp_app (.tmp 66) (.tmp 72) rfl wr.heap.size v2 _ _ rfl HO2.out SV2 (T.length - k) _ rfl (HQ2.out.below HB2.out) HI2.out (by omega) HB2.out.size ?_
      intro v3 w3 ho3 hg3 hat3
      have HB3 := Lib.hid (app_kept HB2.out HO2.out hg3 hat3).1
      obtain ⟨A', c', rfl, hRH⟩ := put_fin HS0.out HB3.out ho3 hk HINS.out HOX.out hlen
      have HRH := Lib.hid (hRH.pre (HB1.out.trans (HBW.out.mono HB1.out.size)))
      clear ho3 hg3 hat3 hRH HO2
      refine HK.out _ _ (fun _ => HB3.out) ?_
      clear HK K
      refine anyT_one' (i := 19) (by kernel_rfl) rfl (by rfl) (fun K hK => ?_)
      have HK := Lib.hid hK
      clear hK
      unfold Oper.wp
      go_simp
      refine HK.out _ _ (fun _ => HB3.out) ?_
      clear HK K
      refine anyT_one' (i := 20) (by kernel_rfl) rfl (by rfl) (fun K hK => ?_)
      have HK := Lib.hid hK
      clear hK
      unfold Oper.wp
      go_simp
      refine HK.out _ _ (fun _ => HB3.out) ?_
      clear HK K
      have hb3 : w3.heap[rb]? = some (.cells #[.int .i64 s, .slice A T.length c] 49 (0, 0)) := (HB3.out.block rb hl).trans HS0.out.box
      have c13 : w3.cell? ⟨rb, 1, none⟩ = some (.slice A T.length c) := cell_blk (i := 1) hb3 rfl
      have f13 := frozen_blk (i := 1) hb3
      refine anyT_one' (i := 21) (by kernel_rfl) rfl (by rfl) (fun K hK => ?_)
      have HK := Lib.hid hK
      clear hK
      unfold Oper.wp
      go_simp
      refine HK.out _ _ (fun h => absurd rfl h) ?_
      clear HK K c13 f13 hb3
      refine anyT_done (by kernel_rfl) ?_ _
      go_wp2_with fail
      go_ret
      exact ⟨rfl, A', c', HRH.out⟩
end Go.Proofs.Ytcipgjelbnmdiaa.HP
