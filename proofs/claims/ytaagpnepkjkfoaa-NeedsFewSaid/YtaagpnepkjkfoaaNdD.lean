/-
  NeedsFew: with a tie more nothing matters less (plain); the closure that searches; the region that lays the graph with a tie more: what stands at each of its orders.
-/
import Derived.Test.YtaagpnepkjkfoaaNdH
import Derived.Test.YtaagpnepkjkfoaaRgt
import Derived.Laws.AppendOwnNone
namespace Go.Proofs.Ytaagpnepkjkfoaa.N7
open Go.RowKit Go.Shelf Go.Proofs.Ytaagpnepkjkfoaa.B Go.Proofs.Ytaagpnepkjkfoaa.R6

theorem any_more {α : Type} {p : α → Bool} {l m : List α} (h : l.any p = true) : (l ++ m).any p = true := by rw [List.any_append, h]; rfl
section
variable {es : List Ev} {ts : List Ti} {N : Nat} (u : Ti)
theorem need_more {a b : Nat} (h : needS N ts a b = true) : needS N (ts ++ [u]) a b = true := by
  unfold needS at *
  rw [Bool.or_eq_true] at *
  exact h.imp any_more any_more
theorem pend_more {i : Nat} (h : pendS es ts i = true) : pendS es (ts ++ [u]) i = true := by
  unfold pendS at *
  rw [Bool.or_eq_true] at *
  exact h.imp id any_more
theorem excl_more {i : Nat} (h : exclS es ts i = true) : exclS es (ts ++ [u]) i = true := by
  unfold exclS at *
  rw [Bool.or_eq_true] at *
  exact h.imp id any_more
theorem inL_more {S T : Nat → Bool} (h : ∀ i, S i = true → T i = true) {x : Int} (hx : x ∈ inL N S) : x ∈ inL N T := by
  obtain ⟨j, h1, h2, h3⟩ := inL_mem.1 hx
  exact inL_mem.2 ⟨j, h1, h _ h2, h3⟩
theorem inL_le {S T : Nat → Bool} (h : ∀ i, S i = true → T i = true) : (inL N S).length ≤ (inL N T).length := by
  unfold inL
  rw [List.length_map, List.length_map, ← List.countP_eq_length_filter, ← List.countP_eq_length_filter]
  exact List.countP_mono_left (fun x _ hx => h x hx)
theorem wy_more {a j : Nat} (h : j ∈ wy (wholeN es ts) a) : j ∈ wy (wholeN es (ts ++ [u])) a := by
  have hl := (Ld.one h).lt_from
  rw [wholeN_len] at hl
  by_cases ha : a < es.length
  · obtain ⟨h1, h2⟩ := (wy_at ha).1 h
    exact (wy_at ha).2 ⟨h1, need_more u h2⟩
  · obtain rfl : a = es.length := by omega
    obtain ⟨h1, h2⟩ := wy_last.1 h
    exact wy_last.2 ⟨h1, pend_more u h2⟩
theorem ld_more {a j : Nat} (h : Ld (wholeN es ts) a j) : Ld (wholeN es (ts ++ [u])) a j := by
  induction h with
  | one h => exact .one (wy_more u h)
  | more h _ ih => exact .more (wy_more u h) ih
theorem mat_more {j : Nat} (h : j ∈ matL es ts) : j ∈ matL es (ts ++ [u]) := mat_mem.2 (ld_more u (mat_mem.1 h))
end
section
variable {P : Program} {ops : Array Oper} {Q : Exit → Act → World → Prop} {md : Region.Mode} {S : World → Prop} {z : Nat}
/-- Whichever of these comes up. -/
def AllT (P : Program) (md : Region.Mode) (ops : Array Oper) (Q : Exit → Act → World → Prop) (S : World → Prop) (z fuel : Nat) (listed : Array Bool) (a : Act) (w : World) (rs : List Nat) : Prop :=
  ∀ i ∈ rs, wpOp P ops Q i (fun a' w' => (i ≠ z → S w') ∧ wpAnyT P md ops Q S z fuel (listed.setIfInBounds i true) a' w') a w
theorem AllT.nil {fuel : Nat} {listed : Array Bool} {a : Act} {w : World} : AllT P md ops Q S z fuel listed a w [] := fun _ h => by cases h
theorem AllT.cons {i : Nat} {oi : Oper} {rs : List Nat} {fuel : Nat} {listed : Array Bool} {a : Act} {w : World} (hi : ops[i]? = some oi) (hwant : Region.wanted oi (yielded ops a.tmps) = true)
    (h : ∀ K : Act → World → Prop, (∀ a' w', (i ≠ z → S w') → wpAnyT P md ops Q S z fuel (listed.setIfInBounds i true) a' w' → K a' w') → oi.wp P a w K Q)
    (hs : AllT P md ops Q S z fuel listed a w rs) : AllT P md ops Q S z fuel listed a w (i :: rs) := fun j hj => by
  rcases List.mem_cons.1 hj with rfl | hj
  · unfold wpOp
    simp only [hi, hwant, if_true]
    exact .inl (h _ fun _ _ h1 h2 => ⟨h1, h2⟩)
  · exact hs j hj
theorem anyT_ready {rs : List Nat} {fuel : Nat} {listed : Array Bool} {a : Act} {w : World} (hr : Region.ready md ops listed = rs) (hne : rs ≠ []) (h : AllT P md ops Q S z fuel listed a w rs) : wpAnyT P md ops Q S z (fuel + 1) listed a w :=
  ⟨fun h0 => absurd (hr.symm.trans h0) hne, fun j hj => h j (by rwa [hr] at hj)⟩
/-- What a region leaves, whatever its order. -/
theorem wp_region_post {V : Type} {id : Nat} {l : Array Oper} {b : Bool} {a : Act} {w : World} (F : V → Act → Act) (G : V → World → Prop)
    (h1 : (Code.region id l b).wp P (fun e a' w' => e = .normal ∧ ∃ x, a' = F x a ∧ G x w') a w) (h2 : ∀ x w', G x w' → Q .normal (F x a) w') : (Code.region id l b).wp P Q a w :=
  Code.wp_mono (by rintro e a' w' ⟨rfl, x, rfl, hG⟩; exact h2 x w' hG) h1
end
/-- append of a row, nil or not, onto one of the call's own, at one operation; and where it lies. -/
theorem wp_append_at {P : Program} {w : World} {o : Oper} {a : Act} {K : Act → World → Prop} {Q : Exit → Act → World → Prop} (s x : Operand) (t : TypeId)
    (ho : o.op = .call { callee := .builtin .append, args := #[s, x], argTypes := #[t, t] })
    (base : Nat) (e : TypeId) (i : TypeInfo) (z : Value) (size bytes : Nat) (ht : P.underlying t = some (.slice e)) (hi : P.info? e = some i) (hz : i.zero = some z)
    (hsize : i.size = size) (hby : i.bytes = bytes) (hzs : z.cells.size = size) (hsz : 0 < size)
    (v : Value) (n : Nat) (xs : List Value) (hs : a.eval s = v) (hown : w.ownsRow base e size v n xs)
    (A : Option Addr) (m c : Nat) (news : List Value) (hx : a.eval x = .slice A m c) (hA : A = none → m = 0 ∧ c = 0) (hl : news.length = m * size) (hnews : Row w A news) (h1 : ∀ u ∈ news, u.oneCell' = true)
    (h63 : n + m ≤ maxLen) (hbytes : (n + m) * bytes ≤ 140737488355328) (hbase : base ≤ w.heap.size)
    (h : ∀ v' w', w'.ownsRow base e size v' (n + m) (xs ++ news) → w.grownBy w' v.ownBlock → (v'.ownBlock = v.ownBlock ∨ v'.ownBlock = some w.heap.size) → K (a.put o.dst v') w') : o.wp P a w K Q := by
  cases A with
  | none =>
    obtain ⟨rfl, rfl⟩ := hA rfl
    have e0 : news = [] := List.length_eq_zero_iff.1 (by rw [hl, Nat.zero_mul])
    subst e0
    have hrun := run_append_owned_none (P := P) (w := w) base t o.type e i size ht hi v n xs hown
    unfold Oper.wp
    simp [execOp, ho, resolve, invoke, builtin, hs, hx, hrun, Result.andThen]
    exact h v w (by rw [List.append_nil]; exact hown) ⟨rfl, rfl, rfl, Nat.le_refl _, fun _ _ _ => rfl⟩ (.inl rfl)
  | some ad =>
    obtain ⟨v', w', hrun, r1, r2, _, r4⟩ := run_append_own_at (P := P) w base t o.type e i z size bytes ht hi hz hsize hby hzs hsz v n xs hown ad m c news hl (fun j u hj => by
      obtain ⟨b, off, e1, _, hc⟩ := hnews (fun e => by rw [e] at hj; cases hj)
      injection e1 with e1
      rw [e1, Addr.add_lit]
      exact hc j u hj) h1 h63 hbytes hbase
    unfold Oper.wp
    simp [execOp, ho, resolve, invoke, builtin, hs, hx, hrun, Result.andThen]
    exact h v' w' r1 r2 r4
/-- What stands in the midst of the region: the row so far, the block with the tie, the new box. -/
structure ST (w0 : World) (u : Ti) (r : Option (Value × Nat × List Value)) (q z : Option Nat) (w : World) : Prop where
  bel : Below w0.heap.size w0 w
  row : ∀ x, r = some x → w.ownsRow w0.heap.size 62 4 x.1 x.2.1 x.2.2
  one : ∀ g, q = some g → w0.heap.size ≤ g ∧ w.heap[g]? = some (.cells #[.int .i64 u.kind, .int .i64 u.fr, .int .i64 u.to, .int .i64 u.time] 62 (0, 0))
  box : ∀ g, z = some g → w0.heap.size ≤ g ∧ w.heap[g]? = some (.cells #[.slice none 0 0, .slice none 0 0] 45 (0, 0))
  dq : ∀ x g, r = some x → q = some g → x.1.ownBlock ≠ some g
  dz : ∀ x g, r = some x → z = some g → x.1.ownBlock ≠ some g
section
variable {w0 w w' : World} {u : Ti} {r : Option (Value × Nat × List Value)} {q z : Option Nat}
theorem ST.start (w0 : World) (u : Ti) : ST w0 u none none none w0.drew := ⟨(Below.refl _ _).drew, by simp, by simp, by simp, by simp, by simp⟩
theorem ST.blk (h : ST w0 u r q z w) {x} (hr : r = some x) {g : Nat} (hg : x.1.ownBlock = some g) : g < w.heap.size := (own_block (h.row x hr) hg).2
theorem ST.lit (h : ST w0 u none q z w) : ST w0 u (some (.slice (some ⟨w.heap.size, 0, none⟩) 0 0, 0, [])) q z (w.alloc (.cells #[] 62)) :=
  ⟨h.bel.alloc h.bel.size _, fun x hx => by
      obtain rfl := Option.some.inj hx
      exact ⟨by simp, .inr ⟨w.heap.size, 0, #[], rfl, h.bel.size, heap_new _ _, by simp, by unfold maxLen; omega, by simp, by simp⟩⟩,
    fun g hg => ⟨(h.one g hg).1, heap_old (blk_lt (h.one g hg).2) (h.one g hg).2⟩, fun g hg => ⟨(h.box g hg).1, heap_old (blk_lt (h.box g hg).2) (h.box g hg).2⟩,
    fun x g hx hg e => by
      obtain rfl := Option.some.inj hx
      have h1 := blk_lt (h.one g hg).2
      have h2 : w.heap.size = g := Option.some.inj e
      omega,
    fun x g hx hg e => by
      obtain rfl := Option.some.inj hx
      have h1 := blk_lt (h.box g hg).2
      have h2 : w.heap.size = g := Option.some.inj e
      omega⟩
theorem ST.tie (h : ST w0 u r none z w) : ST w0 u r (some w.heap.size) z (w.alloc (.cells #[.int .i64 u.kind, .int .i64 u.fr, .int .i64 u.to, .int .i64 u.time] 62)) :=
  ⟨h.bel.alloc h.bel.size _, fun x hx => (h.row x hx).alloc _, fun g hg => by
      obtain rfl := Option.some.inj hg
      exact ⟨h.bel.size, heap_new _ _⟩,
    fun g hg => ⟨(h.box g hg).1, heap_old (blk_lt (h.box g hg).2) (h.box g hg).2⟩,
    fun x g hx hg e => by
      obtain rfl := Option.some.inj hg
      have := h.blk hx e; omega, h.dz⟩
theorem ST.new (h : ST w0 u r q none w) : ST w0 u r q (some w.heap.size) (w.alloc (.cells #[.slice none 0 0, .slice none 0 0] 45)) :=
  ⟨h.bel.alloc h.bel.size _, fun x hx => (h.row x hx).alloc _, fun g hg => ⟨(h.one g hg).1, heap_old (blk_lt (h.one g hg).2) (h.one g hg).2⟩, fun g hg => by
      obtain rfl := Option.some.inj hg
      exact ⟨h.bel.size, heap_new _ _⟩, h.dq,
    fun x g hx hg e => by
      obtain rfl := Option.some.inj hg
      have := h.blk hx e; omega⟩
theorem ST.app {v v' : Value} {n n' : Nat} {xs xs' : List Value} (h : ST w0 u (some (v, n, xs)) q z w) (ho : w'.ownsRow w0.heap.size 62 4 v' n' xs') (hg : w.grownBy w' v.ownBlock) (hl : v'.ownBlock = v.ownBlock ∨ v'.ownBlock = some w.heap.size) : ST w0 u (some (v', n', xs')) q z w' :=
  ⟨h.bel.grown hg h.bel.size (fun k hk => (own_block (h.row _ rfl) hk).1), fun x hx => by
      obtain rfl := Option.some.inj hx
      exact ho,
    fun g e => ⟨(h.one g e).1, (hg.block g (blk_lt (h.one g e).2) (fun e2 => h.dq _ g rfl e e2.symm)).trans (h.one g e).2⟩,
    fun g e => ⟨(h.box g e).1, (hg.block g (blk_lt (h.box g e).2) (fun e2 => h.dz _ g rfl e e2.symm)).trans (h.box g e).2⟩,
    fun x g hx e e2 => by
      obtain rfl := Option.some.inj hx
      rcases hl with hl | hl
      · exact h.dq _ g rfl e (hl.symm.trans e2)
      · have := blk_lt (h.one g e).2
        have e3 := Option.some.inj (hl.symm.trans e2)
        omega,
    fun x g hx e e2 => by
      obtain rfl := Option.some.inj hx
      rcases hl with hl | hl
      · exact h.dz _ g rfl e (hl.symm.trans e2)
      · have := blk_lt (h.box g e).2
        have e3 := Option.some.inj (hl.symm.trans e2)
        omega⟩
theorem ST.rowq {g : Nat} (h : ST w0 u r (some g) z w) : Row w (some ⟨g, 0, none⟩) (tiC u) := row_blk (h.one g rfl).2
theorem ST.cells {g : Nat} (h : ST w0 u r q (some g) w) : (w.cell? ⟨g, 0, none⟩ = some (.slice none 0 0) ∧ w.frozen? ⟨g, 0, none⟩ = false) ∧ (w.cell? ⟨g, 1, none⟩ = some (.slice none 0 0) ∧ w.frozen? ⟨g, 1, none⟩ = false) :=
  ⟨⟨cell_blk (h.box g rfl).2 rfl, frozen_blk (h.box g rfl).2⟩, cell_blk (h.box g rfl).2 rfl, frozen_blk (h.box g rfl).2⟩
/-- What the region leaves: the new box, with the ties and one more. -/
structure FIN (w0 : World) (a b : Value) (ts : List Ti) (u : Ti) (g : Nat) (w : World) : Prop where
  bel : Below w0.heap.size w0 w
  low : w0.heap.size ≤ g
  box : w.heap[g]? = some (.cells #[a, b] 45 (0, 0))
  row : w.ownsRow w0.heap.size 62 4 b (ts ++ [u]).length ((ts ++ [u]).flatMap tiC)
theorem ST.fin {g : Nat} {a b : Value} {ts : List Ti} (h : ST w0 u (some (b, ts.length + 1, ts.flatMap tiC ++ tiC u)) q (some g) w) : FIN w0 a b ts u g ((w.setCell ⟨g, 0, none⟩ a).setCell ⟨g, 1, none⟩ b) := by
  have hd := h.dz _ g rfl rfl
  refine ⟨(h.bel.setCell (p := ⟨g, 0, none⟩) (h.box g rfl).1 _).setCell (p := ⟨g, 1, none⟩) (h.box g rfl).1 _, (h.box g rfl).1, blk_set (blk_set (h.box g rfl).2), ?_⟩
  have := own_set (i := 1) (own_set (i := 0) (h.row _ rfl) hd a) hd b
  simpa [List.flatMap_append] using this
end
set_option maxHeartbeats 1000000 in
/-- Whether a point stands in the list. -/
theorem has_few (w : World) (A : Option Addr) (c : Nat) (l : List Int) (v : Int) (hr : Row w A (l.map (Value.int .i64))) (hl : l.length ≤ 1000000) (hv : v ∈ l) :
    Calls Try.prog 39 (#[.slice A l.length c, .int .i64 v] ++ #[]) w fun e w' => e = .returned (.bool true) ∧ w' = w := by
  show Calls Try.prog 39 #[.slice A l.length c, .int .i64 v] w _
  have HR := Lib.hid hr
  have HV := Lib.hid hv
  clear hr hv
  go_enter Try.func39, Try.ntmps39
  go_wp2_with fail
  go_loopw [9] (fun i wr => ∃ k : Nat, k ≤ l.length ∧ i = .int .i64 k ∧ Hid (∀ j, j < k → l[j]! ≠ v) ∧ wr = w) (fun i _ => l.length - (intOf i).toNat)
  case atStart => exact ⟨0, Nat.zero_le _, rfl, Lib.hid (fun j hj => absurd hj (Nat.not_lt_zero _)), rfl⟩
  case round =>
    obtain ⟨k, hk, rfl, HN, rfl⟩ := hrel
    by_cases hlt : k < l.length
    · obtain ⟨b, off, rfl, hb, hc⟩ := row_at HR.out hlt
      have HA : l[k]! ≠ v → Hid (∀ j, j < k + 1 → l[j]! ≠ v) := fun h => Lib.hid (fun j hj => by
        rcases Nat.lt_or_ge j k with h1 | h1
        · exact HN.out j h1
        · obtain rfl : j = k := by omega
          exact h)
      have hk0 : (0 : Int) ≤ (k : Int) := Int.natCast_nonneg _
      have hk1 : (k : Int) < (l.length : Int) := by omega
      generalize l[k]! = x at *
      by_cases hx : x = v
      · subst hx
        clear HA
        go_wp2_with fail
        go_ret
        exact ⟨rfl, rfl⟩
      · have H := HA hx
        have hx2 : (x == v) = false := by rw [beq_eq_false_iff_ne]; exact hx
        clear HA hx
        go_wp2_with fail
        go_roundw
        case rel => exact ⟨k + 1, hlt, by go_num, H, trivial⟩
        case measure => simp [intOf]; omega
    · obtain rfl : k = l.length := by omega
      exfalso
      obtain ⟨j, hj, e⟩ := List.mem_iff_getElem.1 HV.out
      exact HN.out j hj (by rw [getElem!_pos l j hj]; exact e)
end Go.Proofs.Ytaagpnepkjkfoaa.N7
