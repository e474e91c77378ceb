/-
  Contract of the adding of a statement's graph.
-/
import Derived.Test.YtjgcjnkeeiaafaaGreatDoorTcai
import Derived.Deep.AppendLies
namespace Go.Proofs.YtjgcjnkeeiaafaaGreatDoor.P3.C
open Go.RowKit Go.Shelf Go.Proofs.YtjgcjnkeeiaafaaGreatDoor.B Go.Proofs.YtjgcjnkeeiaafaaGreatDoor.Lx Go.Proofs.YtjgcjnkeeiaafaaGreatDoor.P3
/-- append of a row, nil or not, onto one of the call's own, at one operation. -/
theorem wp_append_any {P : Program} {w : World} {o : Oper} {a : Act} {K : Act → World → Prop} {Q : Exit → Act → World → Prop} (s x : Operand) (t : TypeId)
    (ho : o.op = .call { callee := .builtin .append, args := #[s, x], argTypes := #[t, t] })
    (base : Nat) (e : TypeId) (i : TypeInfo) (z : Value) (size bytes : Nat) (ht : P.underlying t = some (.slice e)) (hi : P.info? e = some i) (hz : i.zero = some z)
    (hsize : i.size = size) (hby : i.bytes = bytes) (hzs : z.cells.size = size) (hsz : 0 < size)
    (v : Value) (n : Nat) (xs : List Value) (hs : a.eval s = v) (hown : w.ownsRow base e size v n xs)
    (A : Option Addr) (m c : Nat) (news : List Value) (hx : a.eval x = .slice A m c) (hA : A = none → m = 0 ∧ c = 0) (hl : news.length = m * size) (hnews : Row w A news) (h1 : ∀ u ∈ news, u.oneCell' = true)
    (h63 : n + m ≤ maxLen) (hbytes : (n + m) * bytes ≤ 140737488355328) (hbase : base ≤ w.heap.size)
    (h : ∀ v' w', w'.ownsRow base e size v' (n + m) (xs ++ news) → w.grownBy w' v.ownBlock → K (a.put o.dst v') w') : o.wp P a w K Q := by
  cases A with
  | none =>
    obtain ⟨rfl, rfl⟩ := hA rfl
    have e0 : news = [] := List.length_eq_zero_iff.1 (by rw [hl, Nat.zero_mul])
    subst e0
    have hrun := run_append_owned_none (P := P) (w := w) base t o.type e i size ht hi v n xs hown
    unfold Oper.wp
    simp [execOp, ho, resolve, invoke, builtin, hs, hx, hrun, Result.andThen]
    exact h v w (by rw [List.append_nil]; exact hown) ⟨rfl, rfl, rfl, Nat.le_refl _, fun _ _ _ => rfl⟩
  | some ad =>
    obtain ⟨v', w', hrun, r1, r2, _, _⟩ := run_append_own_at (P := P) w base t o.type e i z size bytes ht hi hz hsize hby hzs hsz v n xs hown ad m c news hl (fun j u hj => by
      obtain ⟨b, off, e1, _, hc⟩ := hnews (fun e => by rw [e] at hj; cases hj)
      injection e1 with e1
      rw [e1, Addr.add_lit]
      exact hc j u hj) h1 h63 hbytes hbase
    unfold Oper.wp
    simp [execOp, ho, resolve, invoke, builtin, hs, hx, hrun, Result.andThen]
    exact h v' w' r1 r2
/-- A list of one element, or none. -/
def SJ (T : TypeId) (k : Nat) (W : World) (a : Option Addr) (n c : Nat) (news : List Value) : Prop :=
  (a = none ∧ n = 0 ∧ c = 0 ∧ news = []) ∨ ∃ g, a = some ⟨g, 0, none⟩ ∧ n = 1 ∧ c = 1 ∧ news.length = k ∧ W.heap[g]? = some (.cells news.toArray T (0, 0))
section
variable {T : TypeId} {k : Nat} {W W1 : World} {a : Option Addr} {n c : Nat} {news : List Value}
theorem SJ.none (h : SJ T k W a n c news) (e : a = none) : n = 0 ∧ c = 0 := by
  rcases h with ⟨_, h1, h2, _⟩ | ⟨g, h1, _⟩
  · exact ⟨h1, h2⟩
  · rw [e] at h1; cases h1
theorem SJ.len (h : SJ T k W a n c news) : news.length = n * k := by
  rcases h with ⟨_, h1, _, h2⟩ | ⟨g, _, h1, _, h2, _⟩
  · rw [h1, h2, Nat.zero_mul]; rfl
  · rw [h1, h2, Nat.one_mul]
theorem SJ.le (h : SJ T k W a n c news) : n ≤ 1 := by
  rcases h with ⟨_, h1, _, h2⟩ | ⟨g, _, h1, _, h2, _⟩ <;> omega
theorem SJ.row (h : SJ T k W a n c news) : Row W a news := by
  rcases h with ⟨_, _, _, rfl⟩ | ⟨g, rfl, _, _, _, h2⟩
  · intro e; exact absurd rfl e
  · intro _
    exact ⟨g, 0, rfl, blk_lt h2, fun j u hj => by rw [Nat.zero_add]; exact cell_blk h2 (by simpa using hj)⟩
theorem SJ.keep (h : SJ T k W a n c news) (hk : ∀ g : Nat, W.heap[g]? = some (Obj.cells news.toArray T (0, 0)) → W1.heap[g]? = W.heap[g]?) : SJ T k W1 a n c news := by
  rcases h with h | ⟨g, h1, h2, h3, h4, h5⟩
  · exact .inl h
  · exact .inr ⟨g, h1, h2, h3, h4, (hk g h5).trans h5⟩
theorem SJ.below (h : SJ T k W a n c news) (hb : Below W.heap.size W W1) : SJ T k W1 a n c news := h.keep (fun g hg => hb.block g (blk_lt hg))
/-- A row of another type has grown, and was stored in a box of another type. -/
theorem SJ.past {B e z m bw : Nat} {v u : Value} {xs cs : List Value} {T' : TypeId} {i : Nat} (h : SJ T k W a n c news) (hr : W.ownsRow B e z v m xs) (hne : e ≠ T) (hg : W.grownBy W1 v.ownBlock) (hf : W1.heap[bw]? = some (.cells cs.toArray T' (0, 0))) (hT : T' ≠ T) : SJ T k (W1.setCell ⟨bw, i, Option.none⟩ u) a n c news := by
  refine h.keep (fun g hx => ?_)
  have h1 := hg.block g (blk_lt hx) (fun e => own_far hr hx hne e.symm)
  refine (blk_other (fun e => ?_)).trans h1
  subst e
  rw [h1, hx] at hf
  simp only [Option.some.injEq, Obj.cells.injEq] at hf
  exact hT hf.2.1.symm
end
theorem info_gp : (Tryz.prog.info? 37).map (fun i => (i.zero, i.size, i.bytes)) = some (some (.agg #[.string ⟨#[]⟩, .string ⟨#[]⟩]), 2, 32) := by kernel_rfl
theorem info_ev : (Tryz.prog.info? 40).map (fun i => (i.zero, i.size, i.bytes)) = some (some (.agg #[.string ⟨#[]⟩, .string ⟨#[]⟩, .string ⟨#[]⟩, .bool false, .bool false, .int .i64 0]), 6, 64) := by kernel_rfl
theorem info_rl : (Tryz.prog.info? 42).map (fun i => (i.zero, i.size, i.bytes)) = some (some (.agg #[.int .i64 0, .string ⟨#[]⟩, .string ⟨#[]⟩, .int .i64 0]), 4, 48) := by kernel_rfl
theorem info_us : (Tryz.prog.info? 74).map (fun i => (i.zero, i.size, i.bytes)) = some (some (.agg #[.string ⟨#[]⟩, .slice none 0 0, .string ⟨#[]⟩]), 3, 56) := by kernel_rfl
theorem info_int1 : (Tryz.prog.info? 3).map (fun i => (i.zero, i.size, i.bytes)) = some (some (.int .i64 0), 1, 8) := by kernel_rfl
theorem one_gps (N : List Gp) : ∀ u ∈ N.flatMap gpC, u.oneCell' = true := by
  intro u hu
  obtain ⟨x, _, h⟩ := List.mem_flatMap.1 hu
  simp [gpC] at h; rcases h with rfl | rfl <;> rfl
theorem one_evs (N : List Ev) : ∀ u ∈ N.flatMap evC, u.oneCell' = true := by
  intro u hu
  obtain ⟨x, _, h⟩ := List.mem_flatMap.1 hu
  simp [evC] at h; rcases h with rfl | rfl | rfl | rfl | rfl | rfl <;> rfl
theorem one_rls (N : List Rl) : ∀ u ∈ N.flatMap rlC, u.oneCell' = true := by
  intro u hu
  obtain ⟨x, _, h⟩ := List.mem_flatMap.1 hu
  simp [rlC] at h; rcases h with rfl | rfl | rfl | rfl <;> rfl
theorem one_uss (N : List Us) : ∀ u ∈ N.flatMap usC, u.oneCell' = true := by
  intro u hu
  obtain ⟨x, _, h⟩ := List.mem_flatMap.1 hu
  simp [usC] at h; rcases h with rfl | rfl | rfl <;> rfl
/-- The lists of a statement's graph. -/
theorem PVal.src {B B0 : Nat} {v : PartV} {z0 z1 z2 z3 : Value} {W : World} (h : PVal B v z0 z1 z2 z3 W) (hB : B0 ≤ B) : ∃ a0 n0 c0 a1 n1 c1 a2 n2 c2 a3 n3 c3, ∃ N : List Us, (z0 = .slice a0 n0 c0 ∧ z1 = .slice a1 n1 c1 ∧ z2 = .slice a2 n2 c2 ∧ z3 = .slice a3 n3 c3) ∧
    (SJ 37 2 W a0 n0 c0 ((gsOf [v]).flatMap gpC) ∧ n0 = (gsOf [v]).length) ∧ (SJ 40 6 W a1 n1 c1 ((esOf [v]).flatMap evC) ∧ n1 = (esOf [v]).length) ∧ (SJ 42 4 W a2 n2 c2 ((rsOf [v]).flatMap rlC) ∧ n2 = (rsOf [v]).length) ∧ (SJ 74 3 W a3 n3 c3 (N.flatMap usC) ∧ n3 = N.length) ∧
    N.map usBare = usOf [v] ∧ (∀ u ∈ N, W.ownsRow B0 9 1 (.slice u.ra u.roles.length u.rc) u.roles.length (u.roles.map Value.string)) ∧ partNo v = (if 0 < n0 then 1 else if 0 < n1 then 2 else if 0 < n2 then 3 else 4) := by
  cases v with
  | g n m =>
    obtain ⟨g, ⟨rfl, rfl, rfl, rfl⟩, hx, _⟩ := h
    exact ⟨_, _, _, _, _, _, _, _, _, _, _, _, [], ⟨rfl, rfl, rfl, rfl⟩, ⟨.inr ⟨g, rfl, rfl, rfl, rfl, hx⟩, rfl⟩, ⟨.inl ⟨rfl, rfl, rfl, rfl⟩, rfl⟩, ⟨.inl ⟨rfl, rfl, rfl, rfl⟩, rfl⟩, ⟨.inl ⟨rfl, rfl, rfl, rfl⟩, rfl⟩, rfl, (fun u hu => by cases hu), rfl⟩
  | e v =>
    obtain ⟨g, ⟨rfl, rfl, rfl, rfl⟩, hx, _⟩ := h
    exact ⟨_, _, _, _, _, _, _, _, _, _, _, _, [], ⟨rfl, rfl, rfl, rfl⟩, ⟨.inl ⟨rfl, rfl, rfl, rfl⟩, rfl⟩, ⟨.inr ⟨g, rfl, rfl, rfl, rfl, hx⟩, rfl⟩, ⟨.inl ⟨rfl, rfl, rfl, rfl⟩, rfl⟩, ⟨.inl ⟨rfl, rfl, rfl, rfl⟩, rfl⟩, rfl, (fun u hu => by cases hu), rfl⟩
  | r v =>
    obtain ⟨g, ⟨rfl, rfl, rfl, rfl⟩, hx, _⟩ := h
    exact ⟨_, _, _, _, _, _, _, _, _, _, _, _, [], ⟨rfl, rfl, rfl, rfl⟩, ⟨.inl ⟨rfl, rfl, rfl, rfl⟩, rfl⟩, ⟨.inl ⟨rfl, rfl, rfl, rfl⟩, rfl⟩, ⟨.inr ⟨g, rfl, rfl, rfl, rfl, hx⟩, rfl⟩, ⟨.inl ⟨rfl, rfl, rfl, rfl⟩, rfl⟩, rfl, (fun u hu => by cases hu), rfl⟩
  | u v =>
    obtain ⟨g, r, ⟨rfl, rfl, rfl, rfl⟩, hx, _, ho⟩ := h
    obtain ⟨ra, rc, rfl⟩ := Go.Proofs.YtjgcjnkeeiaafaaGreatDoor.B.own_slice ho
    refine ⟨_, _, _, _, _, _, _, _, _, _, _, _, [⟨bytes v.name, ra, rc, v.roles.map bytes, bytes v.sub⟩], ⟨rfl, rfl, rfl, rfl⟩, ⟨.inl ⟨rfl, rfl, rfl, rfl⟩, rfl⟩, ⟨.inl ⟨rfl, rfl, rfl, rfl⟩, rfl⟩, ⟨.inl ⟨rfl, rfl, rfl, rfl⟩, rfl⟩, ⟨.inr ⟨g, rfl, rfl, rfl, rfl, ?_⟩, rfl⟩, rfl, fun u hu => ?_, rfl⟩
    · rw [hx]; simp [usC, bytes]
    · obtain rfl := List.mem_singleton.1 hu
      have h2 := own_base ho hB
      simp only [List.length_map, List.map_map]
      exact h2
theorem wp_append1 {P : Program} {w : World} {o : Oper} {a : Act} {K : Act → World → Prop} {Q : Exit → Act → World → Prop} (s x : Operand) (t : TypeId)
    (ho : o.op = .call { callee := .builtin .append, args := #[s, x], argTypes := #[t, t] })
    (base : Nat) (e : TypeId) (i : TypeInfo) (z : Value) (size bytes : Nat) (ht : P.underlying t = some (.slice e)) (hi : P.info? e = some i) (hz : i.zero = some z)
    (hsize : i.size = size) (hby : i.bytes = bytes) (hzs : z.cells.size = size) (hsz : 0 < size)
    (v : Value) (n : Nat) (xs : List Value) (hs : a.eval s = v) (hown : w.ownsRow base e size v n xs)
    (g m c : Nat) (news : List Value) (hx : a.eval x = .slice (some ⟨g, 0, none⟩) m c) (hl : news.length = m * size) (hnews : ∀ j u, news[j]? = some u → w.cell? ⟨g, j, none⟩ = some u) (h1 : ∀ u ∈ news, u.oneCell' = true)
    (h63 : n + m ≤ maxLen) (hbytes : (n + m) * bytes ≤ 140737488355328) (hbase : base ≤ w.heap.size)
    (h : ∀ v' w', w'.ownsRow base e size v' (n + m) (xs ++ news) → w.grownBy w' v.ownBlock → (v'.ownBlock = v.ownBlock ∨ v'.ownBlock = some w.heap.size) → K (a.put o.dst v') w') : o.wp P a w K Q := by
  obtain ⟨v', w', hrun, r1, r2, _, r4⟩ := run_append_own_at (P := P) w base t o.type e i z size bytes ht hi hz hsize hby hzs hsz v n xs hown ⟨g, 0, none⟩ m c news hl (fun j u hj => by rw [Addr.add_lit, Nat.zero_add]; exact hnews j u hj) h1 h63 hbytes hbase
  unfold Oper.wp
  simp [execOp, ho, resolve, invoke, builtin, hs, hx, hrun, Result.andThen]
  exact h v' w' r1 r2 r4
theorem WH.sc {wB W : World} {bw : Nat} {v0 v1 v2 v3 : Value} {G : List Gp} {E : List Ev} {R : List Rl} {U : List Us} {s : Nat → Value} {bl : Nat → List Int} (h : WH wB bw v0 v1 v2 v3 G E R U s bl W) {p : Nat} (hp : p < 5) : W.cell? ⟨bw, 4 + p, none⟩ = some (s p) := by
  refine cell_blk h.f ?_
  obtain rfl | rfl | rfl | rfl | rfl : p = 0 ∨ p = 1 ∨ p = 2 ∨ p = 3 ∨ p = 4 := by omega
  all_goals rfl
/-- What stands while a statement's graph is added: the box of that graph. -/
structure AX (wB : World) (bw : Nat) (v0 v1 v2 v3 : Value) (G : List Gp) (E : List Ev) (R : List Rl) (U : List Us) (s : Nat → Value) (bl : Nat → List Int) (x : Nat) (z0 z1 z2 z3 : Value) (W : World) : Prop where
  h : WH wB bw v0 v1 v2 v3 G E R U s bl W
  x : W.heap[x]? = some (.cells #[z0, z1, z2, z3] 28 (0, 0))
theorem AX.xc {wB : World} {bw : Nat} {v0 v1 v2 v3 : Value} {G : List Gp} {E : List Ev} {R : List Rl} {U : List Us} {s : Nat → Value} {bl : Nat → List Int} {x : Nat} {z0 z1 z2 z3 : Value} {W : World} (h : AX wB bw v0 v1 v2 v3 G E R U s bl x z0 z1 z2 z3 W) :
    (W.cell? ⟨x, 0, none⟩ = some z0 ∧ W.cell? ⟨x, 1, none⟩ = some z1 ∧ W.cell? ⟨x, 2, none⟩ = some z2 ∧ W.cell? ⟨x, 3, none⟩ = some z3) ∧ x < W.heap.size := ⟨⟨cell_blk h.x rfl, cell_blk h.x rfl, cell_blk h.x rfl, cell_blk h.x rfl⟩, blk_lt h.x⟩
theorem box_past {W W1 : World} {B e z m bw x i : Nat} {v u : Value} {xs cs ds : List Value} {T T' : TypeId} (hx : W.heap[x]? = some (.cells ds.toArray T (0, 0))) (hr : W.ownsRow B e z v m xs) (hne : e ≠ T) (hg : W.grownBy W1 v.ownBlock) (hf : W1.heap[bw]? = some (.cells cs.toArray T' (0, 0))) (hT : T' ≠ T) : (W1.setCell ⟨bw, i, none⟩ u).heap[x]? = some (.cells ds.toArray T (0, 0)) := by
  have h1 := hg.block x (blk_lt hx) (fun e => own_far hr hx hne e.symm)
  refine ((blk_other (fun e => ?_)).trans h1).trans hx
  subst e
  rw [h1, hx] at hf
  simp only [Option.some.injEq, Obj.cells.injEq] at hf
  exact hT hf.2.1.symm
/-- A graph has been added. -/
def AdP (wB : World) (bw : Nat) (G : List Gp) (E : List Ev) (R : List Rl) (U : List Us) (bl : Nat → List Int) (v : PartV) (at_ : Int) (e : Ending) (w' : World) : Prop :=
  e = .returned (.tuple #[]) ∧ ∃ v0 v1 v2 v3 s N, WH wB bw v0 v1 v2 v3 (G ++ gsOf [v]) (E ++ esOf [v]) (R ++ rsOf [v]) (U ++ N) s (fun i => if i = partNo v then bl i ++ [at_] else bl i) w' ∧ N.map usBare = usOf [v]
set_option maxRecDepth 100000 in
set_option maxHeartbeats 8000000 in
theorem add_any (wB W : World) (bw : Nat) (v0 v1 v2 v3 : Value) (G : List Gp) (E : List Ev) (R : List Rl) (U : List Us) (s : Nat → Value) (bl : Nat → List Int) (v : PartV) (z0 z1 z2 z3 : Value) (B : Nat) (at_ : Int)
    (h : WH wB bw v0 v1 v2 v3 G E R U s bl W) (hv : PVal B v z0 z1 z2 z3 W) (hB : wB.heap.size ≤ B) (hG : G.length ≤ 1000000) (hE : E.length ≤ 1000000) (hRl : R.length ≤ 1000000) (hU : U.length ≤ 1000000) (hbl : ∀ p, p < 5 → (bl p).length ≤ 1000000) :
    Calls Tryz.prog 12 #[.pointer (some ⟨bw, 0, none⟩), .agg #[z0, z1, z2, z3], .int .i64 at_] W (AdP wB bw G E R U bl v at_) := by
  obtain ⟨i0, gi0, gi1, gi2, gi3⟩ := info_parts info_gp
  obtain ⟨i1, ei0, ei1, ei2, ei3⟩ := info_parts info_ev
  obtain ⟨i2, ri0, ri1, ri2, ri3⟩ := info_parts info_rl
  obtain ⟨i3, ui0, ui1, ui2, ui3⟩ := info_parts info_us
  obtain ⟨i4, ni0, ni1, ni2, ni3⟩ := info_parts info_int1
  obtain ⟨a0, n0, c0, a1, n1, c1, a2, n2, c2, a3, n3, c3, N, ⟨rfl, rfl, rfl, rfl⟩, ⟨q0, l0⟩, ⟨q1, l1⟩, ⟨q2, l2⟩, ⟨q3, l3⟩, hN, hro, hpn⟩ := hv.src hB
  have hal : Below W.heap.size W (W.alloc (.cells #[.slice a0 n0 c0, .slice a1 n1 c1, .slice a2 n2 c2, .slice a3 n3 c3] 28)) := (Below.refl _ _).alloc (Nat.le_refl _) _
  have Q0 := Lib.hid (q0.below hal)
  have Q1 := Lib.hid (q1.below hal)
  have Q2 := Lib.hid (q2.below hal)
  have Q3 := Lib.hid (q3.below hal)
  have HRO := Lib.hid (fun u hu => Go.Proofs.YtjgcjnkeeiaafaaGreatDoor.B.own_below (hro u hu) hal)
  have X : Hid (AX wB bw v0 v1 v2 v3 G E R U s bl W.heap.size (.slice a0 n0 c0) (.slice a1 n1 c1) (.slice a2 n2 c2) (.slice a3 n3 c3) (W.alloc (.cells #[.slice a0 n0 c0, .slice a1 n1 c1, .slice a2 n2 c2, .slice a3 n3 c3] 28))) := Lib.hid ⟨h.call hal, heap_new _ _⟩
  have HP := Lib.hid (partOf_any · a0 a1 a2 a3 n0 n1 n2 n3 c0 c1 c2 c3 (partNo v) hpn)
  subst l0 l1 l2 l3
  have HNB := Lib.hid hN
  have HPL : Hid (partNo v < 5) := Lib.hid (by rw [hpn]; split <;> (try split) <;> (try split) <;> omega)
  have hn0 := q0.le
  have hn1 := q1.le
  have hn2 := q2.le
  have hn3 := q3.le
  clear h hv hal q0 q1 q2 q3 hro hpn hN
  obtain ⟨PO, hPO⟩ : ∃ PO, PO = AdP wB bw G E R U bl v at_ := ⟨_, rfl⟩
  rw [← hPO]
  have HPO : Hid (∀ v0 v1 v2 v3 s N w', WH wB bw v0 v1 v2 v3 (G ++ gsOf [v]) (E ++ esOf [v]) (R ++ rsOf [v]) (U ++ N) s (fun i => if i = partNo v then bl i ++ [at_] else bl i) w' → N.map usBare = usOf [v] → PO (.returned (.tuple #[])) w') := Lib.hid (by rw [hPO]; exact fun v0 v1 v2 v3 s N w' h1 h2 => ⟨rfl, v0, v1, v2, v3, s, N, h1, h2⟩)
  clear hPO
  generalize gsOf [v] = G1 at *
  generalize esOf [v] = E1 at *
  generalize rsOf [v] = R1 at *
  generalize usOf [v] = U1 at *
  generalize partNo v = p at *
  obtain ⟨W0, hW0⟩ : ∃ W0, W0 = W.alloc (.cells #[.slice a0 G1.length c0, .slice a1 E1.length c1, .slice a2 R1.length c2, .slice a3 N.length c3] 28) := ⟨_, rfl⟩
  obtain ⟨x, hx⟩ : ∃ x, x = W.heap.size := ⟨_, rfl⟩
  rw [← hW0] at Q0 Q1 Q2 Q3 HRO
  rw [← hW0, ← hx] at X
  go_enter Tryz.func12, Tryz.ntmps12
  go_wp2_with fail
  rw [← hW0, ← hx]
  clear hW0 hx
  have hd0 : Below W0.heap.size W0 W0.drew := below_draws (Below.refl _ _) 1
  have D0 := Lib.hid (And.intro (X.out.h.call hd0) (Q0.out.below hd0))
  have XD0 := Lib.hid ((hd0.block _ X.out.xc.2).trans X.out.x)
  have S0 : Hid (W0.drew.cell? ⟨bw, 0, none⟩ = some v0 ∧ W0.drew.cell? ⟨x, 0, none⟩ = some (.slice a0 G1.length c0)) := Lib.hid ⟨cell_blk (i := 0) D0.out.1.f rfl, cell_blk (i := 0) XD0.out rfl⟩
  refine wp_region_T (S := fun W' => W'.cell? ⟨bw, 0, none⟩ = some v0 ∧ W'.cell? ⟨x, 0, none⟩ = some (.slice a0 G1.length c0)) (z := 12) (by kernel_rfl) ?_
  refine anyT_take (i := 0) 0 [] (v := ?_) rfl (by kernel_rfl) (by kernel_rfl) (by kernel_rfl) (by kernel_rfl) (fun _ _ _ h => h) S0.out (by rfl) ?_ ?_
  rotate_left
  · intro W9 hSw
    go_simp
    try with_reducible rfl
  simp only [Act.put, List.setIfInBounds_toArray]
  try simp only [List.set_cons_zero, List.set_cons_succ]
  try simp only [List.getElem_toArray]
  repeat (first | simp only [List.getElem_cons_zero] | simp only [List.getElem_cons_succ])
  refine anyT_take (i := 1) 1 [] (v := ?_) rfl (by kernel_rfl) (by kernel_rfl) (by kernel_rfl) (by kernel_rfl) (fun _ _ _ h => h) S0.out (by rfl) ?_ ?_
  rotate_left
  · intro W9 hSw
    go_simp
    try with_reducible rfl
  simp only [Act.put, List.setIfInBounds_toArray]
  try simp only [List.set_cons_zero, List.set_cons_succ]
  try simp only [List.getElem_toArray]
  repeat (first | simp only [List.getElem_cons_zero] | simp only [List.getElem_cons_succ])
  refine anyT_take (i := 2) 2 [] (v := ?_) rfl (by kernel_rfl) (by kernel_rfl) (by kernel_rfl) (by kernel_rfl) (fun _ _ _ h => h) S0.out (by rfl) ?_ ?_
  rotate_left
  · intro W9 hSw
    go_simp
    try with_reducible rfl
  simp only [Act.put, List.setIfInBounds_toArray]
  try simp only [List.set_cons_zero, List.set_cons_succ]
  try simp only [List.getElem_toArray]
  repeat (first | simp only [List.getElem_cons_zero] | simp only [List.getElem_cons_succ])
  refine anyT_take (i := 3) 3 [] (v := ?_) rfl (by kernel_rfl) (by kernel_rfl) (by kernel_rfl) (by kernel_rfl) (fun _ _ _ h => h) S0.out (by rfl) ?_ ?_
  rotate_left
  · intro W9 hSw
    go_simp
    try with_reducible rfl
  simp only [Act.put, List.setIfInBounds_toArray]
  try simp only [List.set_cons_zero, List.set_cons_succ]
  try simp only [List.getElem_toArray]
  repeat (first | simp only [List.getElem_cons_zero] | simp only [List.getElem_cons_succ])
  refine anyT_take (i := 4) 4 [] (v := ?_) rfl (by kernel_rfl) (by kernel_rfl) (by kernel_rfl) (by kernel_rfl) (fun _ _ _ h => h) S0.out (by rfl) ?_ ?_
  rotate_left
  · intro W9 hSw
    go_simp
    try with_reducible rfl
  simp only [Act.put, List.setIfInBounds_toArray]
  try simp only [List.set_cons_zero, List.set_cons_succ]
  try simp only [List.getElem_toArray]
  repeat (first | simp only [List.getElem_cons_zero] | simp only [List.getElem_cons_succ])
  refine anyT_take (i := 5) 5 [] (v := ?_) rfl (by kernel_rfl) (by kernel_rfl) (by kernel_rfl) (by kernel_rfl) (fun _ _ _ h => h) S0.out (by rfl) ?_ ?_
  rotate_left
  · intro W9 hSw
    obtain ⟨s0, s1⟩ := hSw
    go_simp
    try with_reducible rfl
  simp only [Act.put, List.setIfInBounds_toArray]
  try simp only [List.set_cons_zero, List.set_cons_succ]
  try simp only [List.getElem_toArray]
  repeat (first | simp only [List.getElem_cons_zero] | simp only [List.getElem_cons_succ])
  refine anyT_take (i := 6) 6 [] (v := ?_) rfl (by kernel_rfl) (by kernel_rfl) (by kernel_rfl) (by kernel_rfl) (fun _ _ _ h => h) S0.out (by rfl) ?_ ?_
  rotate_left
  · intro W9 hSw
    go_simp
    try with_reducible rfl
  simp only [Act.put, List.setIfInBounds_toArray]
  try simp only [List.set_cons_zero, List.set_cons_succ]
  try simp only [List.getElem_toArray]
  repeat (first | simp only [List.getElem_cons_zero] | simp only [List.getElem_cons_succ])
  refine anyT_take (i := 7) 7 [] (v := ?_) rfl (by kernel_rfl) (by kernel_rfl) (by kernel_rfl) (by kernel_rfl) (fun _ _ _ h => h) S0.out (by rfl) ?_ ?_
  rotate_left
  · intro W9 hSw
    obtain ⟨s0, s1⟩ := hSw
    go_simp
    try with_reducible rfl
  simp only [Act.put, List.setIfInBounds_toArray]
  try simp only [List.set_cons_zero, List.set_cons_succ]
  try simp only [List.getElem_toArray]
  repeat (first | simp only [List.getElem_cons_zero] | simp only [List.getElem_cons_succ])
  refine anyT_one' (i := 8) (by kernel_rfl) rfl (by rfl) (fun K hK => ?_)
  have HK := Lib.hid hK
  clear hK
  refine wp_append_any (.tmp 12) (.tmp 14) 23 (by rfl) wB.heap.size 37 i0 _ 2 32 Tryz.underlying23 gi0 gi1 gi2 gi3 rfl (by omega) v0 G.length (G.flatMap gpC) (by rfl) D0.out.1.o0 a0 G1.length c0 (G1.flatMap gpC) (by rfl) D0.out.2.none D0.out.2.len D0.out.2.row (one_gps G1) (by unfold maxLen; omega) (by omega) D0.out.1.l.size ?_
  intro u0 k0 ho hg
  obtain ⟨pa0, pc0, rfl⟩ := Go.Proofs.YtjgcjnkeeiaafaaGreatDoor.B.own_slice ho
  have hm := D0.out.1.mid0 hg
  have hxm := (hg.block x (blk_lt XD0.out) (fun e => own_far D0.out.1.o0 XD0.out (by decide) e.symm)).trans XD0.out
  have T0 : Hid (k0.cell? ⟨bw, 0, none⟩ = some v0 ∧ k0.cell? ⟨x, 0, none⟩ = some (.slice a0 G1.length c0)) := Lib.hid ⟨cell_blk (i := 0) hm rfl, cell_blk (i := 0) hxm rfl⟩
  have fj := frozen_blk (i := 0) hm
  have lj := blk_lt hm
  replace Q1 := Lib.hid ((Q1.out.below hd0).past (i := 0) (u := (.slice pa0 (G.length + G1.length) pc0)) D0.out.1.o0 (by decide) hg hm (by decide))
  replace Q2 := Lib.hid ((Q2.out.below hd0).past (i := 0) (u := (.slice pa0 (G.length + G1.length) pc0)) D0.out.1.o0 (by decide) hg hm (by decide))
  replace Q3 := Lib.hid ((Q3.out.below hd0).past (i := 0) (u := (.slice pa0 (G.length + G1.length) pc0)) D0.out.1.o0 (by decide) hg hm (by decide))
  replace HRO := Lib.hid (fun u hu => kp (Go.Proofs.YtjgcjnkeeiaafaaGreatDoor.B.own_below (HRO.out u hu) hd0) D0.out.1.o0 (by decide) hg hm (by decide) 0 (.slice pa0 (G.length + G1.length) pc0))
  have hx0 := box_past (bw := bw) (i := 0) (u := (.slice pa0 (G.length + G1.length) pc0)) XD0.out D0.out.1.o0 (by decide) hg hm (by decide)
  replace X : Hid (AX wB bw (.slice pa0 (G.length + G1.length) pc0) v1 v2 v3 (G ++ G1) E R U s bl x (.slice a0 G1.length c0) (.slice a1 E1.length c1) (.slice a2 R1.length c2) (.slice a3 N.length c3) (k0.setCell ⟨bw, 0, none⟩ (.slice pa0 (G.length + G1.length) pc0))) := Lib.hid ⟨D0.out.1.put0 ho hg, hx0⟩
  clear ho hg hm hxm hx0 D0 XD0 hd0 S0
  refine HK.out _ _ (fun _ => T0.out) ?_
  clear HK K
  simp only [Act.put, List.setIfInBounds_toArray]
  try simp only [List.set_cons_zero, List.set_cons_succ]
  try simp only [List.getElem_toArray]
  repeat (first | simp only [List.getElem_cons_zero] | simp only [List.getElem_cons_succ])
  refine anyT_one' (i := 9) (by kernel_rfl) rfl (by rfl) (fun K hK => ?_)
  have HK := Lib.hid hK
  clear hK
  unfold Oper.wp
  go_simp
  refine HK.out _ _ (fun _ => T0.out) ?_
  clear HK K
  refine anyT_one' (i := 10) (by kernel_rfl) rfl (by rfl) (fun K hK => ?_)
  have HK := Lib.hid hK
  clear hK
  unfold Oper.wp
  go_simp
  refine HK.out _ _ (fun _ => T0.out) ?_
  clear HK K
  refine anyT_one' (i := 11) (by kernel_rfl) rfl (by rfl) (fun K hK => ?_)
  have HK := Lib.hid hK
  clear hK
  unfold Oper.wp
  go_simp
  refine HK.out _ _ (fun _ => T0.out) ?_
  clear HK K
  refine anyT_one' (i := 12) (by kernel_rfl) rfl (by rfl) (fun K hK => ?_)
  have HK := Lib.hid hK
  clear hK
  obtain ⟨t0, t1⟩ := T0.out
  unfold Oper.wp
  go_simp
  refine HK.out _ _ (fun h => absurd rfl h) ?_
  clear HK K t0 t1 T0 fj lj
  refine anyT_done (by kernel_rfl) ?_ _
  go_wp2_with fail
  obtain ⟨K0, hK0⟩ : ∃ K0, K0 = k0.setCell ⟨bw, 0, none⟩ (.slice pa0 (G.length + G1.length) pc0) := ⟨_, rfl⟩
  rw [← hK0] at X Q1 Q2 Q3 HRO
  rw [← hK0]
  clear hK0 Q0
  have hd1 : Below K0.heap.size K0 K0.drew := below_draws (Below.refl _ _) 1
  have D1 := Lib.hid (And.intro (X.out.h.call hd1) (Q1.out.below hd1))
  have XD1 := Lib.hid ((hd1.block _ X.out.xc.2).trans X.out.x)
  have S1 : Hid (K0.drew.cell? ⟨bw, 1, none⟩ = some v1 ∧ K0.drew.cell? ⟨x, 1, none⟩ = some (.slice a1 E1.length c1)) := Lib.hid ⟨cell_blk (i := 1) D1.out.1.f rfl, cell_blk (i := 1) XD1.out rfl⟩
  refine wp_region_T (S := fun W' => W'.cell? ⟨bw, 1, none⟩ = some v1 ∧ W'.cell? ⟨x, 1, none⟩ = some (.slice a1 E1.length c1)) (z := 12) (by kernel_rfl) ?_
  refine anyT_take (i := 0) 0 [] (v := ?_) rfl (by kernel_rfl) (by kernel_rfl) (by kernel_rfl) (by kernel_rfl) (fun _ _ _ h => h) S1.out (by rfl) ?_ ?_
  rotate_left
  · intro W9 hSw
    go_simp
    try with_reducible rfl
  simp only [Act.put, List.setIfInBounds_toArray]
  try simp only [List.set_cons_zero, List.set_cons_succ]
  try simp only [List.getElem_toArray]
  repeat (first | simp only [List.getElem_cons_zero] | simp only [List.getElem_cons_succ])
  refine anyT_take (i := 1) 1 [] (v := ?_) rfl (by kernel_rfl) (by kernel_rfl) (by kernel_rfl) (by kernel_rfl) (fun _ _ _ h => h) S1.out (by rfl) ?_ ?_
  rotate_left
  · intro W9 hSw
    go_simp
    try with_reducible rfl
  simp only [Act.put, List.setIfInBounds_toArray]
  try simp only [List.set_cons_zero, List.set_cons_succ]
  try simp only [List.getElem_toArray]
  repeat (first | simp only [List.getElem_cons_zero] | simp only [List.getElem_cons_succ])
  refine anyT_take (i := 2) 2 [] (v := ?_) rfl (by kernel_rfl) (by kernel_rfl) (by kernel_rfl) (by kernel_rfl) (fun _ _ _ h => h) S1.out (by rfl) ?_ ?_
  rotate_left
  · intro W9 hSw
    go_simp
    try with_reducible rfl
  simp only [Act.put, List.setIfInBounds_toArray]
  try simp only [List.set_cons_zero, List.set_cons_succ]
  try simp only [List.getElem_toArray]
  repeat (first | simp only [List.getElem_cons_zero] | simp only [List.getElem_cons_succ])
  refine anyT_take (i := 3) 3 [] (v := ?_) rfl (by kernel_rfl) (by kernel_rfl) (by kernel_rfl) (by kernel_rfl) (fun _ _ _ h => h) S1.out (by rfl) ?_ ?_
  rotate_left
  · intro W9 hSw
    go_simp
    try with_reducible rfl
  simp only [Act.put, List.setIfInBounds_toArray]
  try simp only [List.set_cons_zero, List.set_cons_succ]
  try simp only [List.getElem_toArray]
  repeat (first | simp only [List.getElem_cons_zero] | simp only [List.getElem_cons_succ])
  refine anyT_take (i := 4) 4 [] (v := ?_) rfl (by kernel_rfl) (by kernel_rfl) (by kernel_rfl) (by kernel_rfl) (fun _ _ _ h => h) S1.out (by rfl) ?_ ?_
  rotate_left
  · intro W9 hSw
    go_simp
    try with_reducible rfl
  simp only [Act.put, List.setIfInBounds_toArray]
  try simp only [List.set_cons_zero, List.set_cons_succ]
  try simp only [List.getElem_toArray]
  repeat (first | simp only [List.getElem_cons_zero] | simp only [List.getElem_cons_succ])
  refine anyT_take (i := 5) 5 [] (v := ?_) rfl (by kernel_rfl) (by kernel_rfl) (by kernel_rfl) (by kernel_rfl) (fun _ _ _ h => h) S1.out (by rfl) ?_ ?_
  rotate_left
  · intro W9 hSw
    obtain ⟨s0, s1⟩ := hSw
    go_simp
    try with_reducible rfl
  simp only [Act.put, List.setIfInBounds_toArray]
  try simp only [List.set_cons_zero, List.set_cons_succ]
  try simp only [List.getElem_toArray]
  repeat (first | simp only [List.getElem_cons_zero] | simp only [List.getElem_cons_succ])
  refine anyT_take (i := 6) 6 [] (v := ?_) rfl (by kernel_rfl) (by kernel_rfl) (by kernel_rfl) (by kernel_rfl) (fun _ _ _ h => h) S1.out (by rfl) ?_ ?_
  rotate_left
  · intro W9 hSw
    go_simp
    try with_reducible rfl
  simp only [Act.put, List.setIfInBounds_toArray]
  try simp only [List.set_cons_zero, List.set_cons_succ]
  try simp only [List.getElem_toArray]
  repeat (first | simp only [List.getElem_cons_zero] | simp only [List.getElem_cons_succ])
  refine anyT_take (i := 7) 7 [] (v := ?_) rfl (by kernel_rfl) (by kernel_rfl) (by kernel_rfl) (by kernel_rfl) (fun _ _ _ h => h) S1.out (by rfl) ?_ ?_
  rotate_left
  · intro W9 hSw
    obtain ⟨s0, s1⟩ := hSw
    go_simp
    try with_reducible rfl
  simp only [Act.put, List.setIfInBounds_toArray]
  try simp only [List.set_cons_zero, List.set_cons_succ]
  try simp only [List.getElem_toArray]
  repeat (first | simp only [List.getElem_cons_zero] | simp only [List.getElem_cons_succ])
  refine anyT_one' (i := 8) (by kernel_rfl) rfl (by rfl) (fun K hK => ?_)
  have HK := Lib.hid hK
  clear hK
  refine wp_append_any (.tmp 24) (.tmp 26) 24 (by rfl) wB.heap.size 40 i1 _ 6 64 Tryz.underlying24 ei0 ei1 ei2 ei3 rfl (by omega) v1 E.length (E.flatMap evC) (by rfl) D1.out.1.o1 a1 E1.length c1 (E1.flatMap evC) (by rfl) D1.out.2.none D1.out.2.len D1.out.2.row (one_evs E1) (by unfold maxLen; omega) (by omega) D1.out.1.l.size ?_
  intro u1 k1 ho hg
  obtain ⟨pa1, pc1, rfl⟩ := Go.Proofs.YtjgcjnkeeiaafaaGreatDoor.B.own_slice ho
  have hm := D1.out.1.mid1 hg
  have hxm := (hg.block x (blk_lt XD1.out) (fun e => own_far D1.out.1.o1 XD1.out (by decide) e.symm)).trans XD1.out
  have T1 : Hid (k1.cell? ⟨bw, 1, none⟩ = some v1 ∧ k1.cell? ⟨x, 1, none⟩ = some (.slice a1 E1.length c1)) := Lib.hid ⟨cell_blk (i := 1) hm rfl, cell_blk (i := 1) hxm rfl⟩
  have fj := frozen_blk (i := 1) hm
  have lj := blk_lt hm
  replace Q2 := Lib.hid ((Q2.out.below hd1).past (i := 1) (u := (.slice pa1 (E.length + E1.length) pc1)) D1.out.1.o1 (by decide) hg hm (by decide))
  replace Q3 := Lib.hid ((Q3.out.below hd1).past (i := 1) (u := (.slice pa1 (E.length + E1.length) pc1)) D1.out.1.o1 (by decide) hg hm (by decide))
  replace HRO := Lib.hid (fun u hu => kp (Go.Proofs.YtjgcjnkeeiaafaaGreatDoor.B.own_below (HRO.out u hu) hd1) D1.out.1.o1 (by decide) hg hm (by decide) 1 (.slice pa1 (E.length + E1.length) pc1))
  have hx1 := box_past (bw := bw) (i := 1) (u := (.slice pa1 (E.length + E1.length) pc1)) XD1.out D1.out.1.o1 (by decide) hg hm (by decide)
  replace X : Hid (AX wB bw (.slice pa0 (G.length + G1.length) pc0) (.slice pa1 (E.length + E1.length) pc1) v2 v3 (G ++ G1) (E ++ E1) R U s bl x (.slice a0 G1.length c0) (.slice a1 E1.length c1) (.slice a2 R1.length c2) (.slice a3 N.length c3) (k1.setCell ⟨bw, 1, none⟩ (.slice pa1 (E.length + E1.length) pc1))) := Lib.hid ⟨D1.out.1.put1 ho hg, hx1⟩
  clear ho hg hm hxm hx1 D1 XD1 hd1 S1
  refine HK.out _ _ (fun _ => T1.out) ?_
  clear HK K
  simp only [Act.put, List.setIfInBounds_toArray]
  try simp only [List.set_cons_zero, List.set_cons_succ]
  try simp only [List.getElem_toArray]
  repeat (first | simp only [List.getElem_cons_zero] | simp only [List.getElem_cons_succ])
  refine anyT_one' (i := 9) (by kernel_rfl) rfl (by rfl) (fun K hK => ?_)
  have HK := Lib.hid hK
  clear hK
  unfold Oper.wp
  go_simp
  refine HK.out _ _ (fun _ => T1.out) ?_
  clear HK K
  refine anyT_one' (i := 10) (by kernel_rfl) rfl (by rfl) (fun K hK => ?_)
  have HK := Lib.hid hK
  clear hK
  unfold Oper.wp
  go_simp
  refine HK.out _ _ (fun _ => T1.out) ?_
  clear HK K
  refine anyT_one' (i := 11) (by kernel_rfl) rfl (by rfl) (fun K hK => ?_)
  have HK := Lib.hid hK
  clear hK
  unfold Oper.wp
  go_simp
  refine HK.out _ _ (fun _ => T1.out) ?_
  clear HK K
  refine anyT_one' (i := 12) (by kernel_rfl) rfl (by rfl) (fun K hK => ?_)
  have HK := Lib.hid hK
  clear hK
  obtain ⟨t0, t1⟩ := T1.out
  unfold Oper.wp
  go_simp
  refine HK.out _ _ (fun h => absurd rfl h) ?_
  clear HK K t0 t1 T1 fj lj
  refine anyT_done (by kernel_rfl) ?_ _
  go_wp2_with fail
  obtain ⟨K1, hK1⟩ : ∃ K1, K1 = k1.setCell ⟨bw, 1, none⟩ (.slice pa1 (E.length + E1.length) pc1) := ⟨_, rfl⟩
  rw [← hK1] at X Q2 Q3 HRO
  rw [← hK1]
  clear hK1 Q1
  have hd2 : Below K1.heap.size K1 K1.drew := below_draws (Below.refl _ _) 1
  have D2 := Lib.hid (And.intro (X.out.h.call hd2) (Q2.out.below hd2))
  have XD2 := Lib.hid ((hd2.block _ X.out.xc.2).trans X.out.x)
  have S2 : Hid (K1.drew.cell? ⟨bw, 2, none⟩ = some v2 ∧ K1.drew.cell? ⟨x, 2, none⟩ = some (.slice a2 R1.length c2)) := Lib.hid ⟨cell_blk (i := 2) D2.out.1.f rfl, cell_blk (i := 2) XD2.out rfl⟩
  refine wp_region_T (S := fun W' => W'.cell? ⟨bw, 2, none⟩ = some v2 ∧ W'.cell? ⟨x, 2, none⟩ = some (.slice a2 R1.length c2)) (z := 12) (by kernel_rfl) ?_
  refine anyT_take (i := 0) 0 [] (v := ?_) rfl (by kernel_rfl) (by kernel_rfl) (by kernel_rfl) (by kernel_rfl) (fun _ _ _ h => h) S2.out (by rfl) ?_ ?_
  rotate_left
  · intro W9 hSw
    go_simp
    try with_reducible rfl
  simp only [Act.put, List.setIfInBounds_toArray]
  try simp only [List.set_cons_zero, List.set_cons_succ]
  try simp only [List.getElem_toArray]
  repeat (first | simp only [List.getElem_cons_zero] | simp only [List.getElem_cons_succ])
  refine anyT_take (i := 1) 1 [] (v := ?_) rfl (by kernel_rfl) (by kernel_rfl) (by kernel_rfl) (by kernel_rfl) (fun _ _ _ h => h) S2.out (by rfl) ?_ ?_
  rotate_left
  · intro W9 hSw
    go_simp
    try with_reducible rfl
  simp only [Act.put, List.setIfInBounds_toArray]
  try simp only [List.set_cons_zero, List.set_cons_succ]
  try simp only [List.getElem_toArray]
  repeat (first | simp only [List.getElem_cons_zero] | simp only [List.getElem_cons_succ])
  refine anyT_take (i := 2) 2 [] (v := ?_) rfl (by kernel_rfl) (by kernel_rfl) (by kernel_rfl) (by kernel_rfl) (fun _ _ _ h => h) S2.out (by rfl) ?_ ?_
  rotate_left
  · intro W9 hSw
    go_simp
    try with_reducible rfl
  simp only [Act.put, List.setIfInBounds_toArray]
  try simp only [List.set_cons_zero, List.set_cons_succ]
  try simp only [List.getElem_toArray]
  repeat (first | simp only [List.getElem_cons_zero] | simp only [List.getElem_cons_succ])
  refine anyT_take (i := 3) 3 [] (v := ?_) rfl (by kernel_rfl) (by kernel_rfl) (by kernel_rfl) (by kernel_rfl) (fun _ _ _ h => h) S2.out (by rfl) ?_ ?_
  rotate_left
  · intro W9 hSw
    go_simp
    try with_reducible rfl
  simp only [Act.put, List.setIfInBounds_toArray]
  try simp only [List.set_cons_zero, List.set_cons_succ]
  try simp only [List.getElem_toArray]
  repeat (first | simp only [List.getElem_cons_zero] | simp only [List.getElem_cons_succ])
  refine anyT_take (i := 4) 4 [] (v := ?_) rfl (by kernel_rfl) (by kernel_rfl) (by kernel_rfl) (by kernel_rfl) (fun _ _ _ h => h) S2.out (by rfl) ?_ ?_
  rotate_left
  · intro W9 hSw
    go_simp
    try with_reducible rfl
  simp only [Act.put, List.setIfInBounds_toArray]
  try simp only [List.set_cons_zero, List.set_cons_succ]
  try simp only [List.getElem_toArray]
  repeat (first | simp only [List.getElem_cons_zero] | simp only [List.getElem_cons_succ])
  refine anyT_take (i := 5) 5 [] (v := ?_) rfl (by kernel_rfl) (by kernel_rfl) (by kernel_rfl) (by kernel_rfl) (fun _ _ _ h => h) S2.out (by rfl) ?_ ?_
  rotate_left
  · intro W9 hSw
    obtain ⟨s0, s1⟩ := hSw
    go_simp
    try with_reducible rfl
  simp only [Act.put, List.setIfInBounds_toArray]
  try simp only [List.set_cons_zero, List.set_cons_succ]
  try simp only [List.getElem_toArray]
  repeat (first | simp only [List.getElem_cons_zero] | simp only [List.getElem_cons_succ])
  refine anyT_take (i := 6) 6 [] (v := ?_) rfl (by kernel_rfl) (by kernel_rfl) (by kernel_rfl) (by kernel_rfl) (fun _ _ _ h => h) S2.out (by rfl) ?_ ?_
  rotate_left
  · intro W9 hSw
    go_simp
    try with_reducible rfl
  simp only [Act.put, List.setIfInBounds_toArray]
  try simp only [List.set_cons_zero, List.set_cons_succ]
  try simp only [List.getElem_toArray]
  repeat (first | simp only [List.getElem_cons_zero] | simp only [List.getElem_cons_succ])
  refine anyT_take (i := 7) 7 [] (v := ?_) rfl (by kernel_rfl) (by kernel_rfl) (by kernel_rfl) (by kernel_rfl) (fun _ _ _ h => h) S2.out (by rfl) ?_ ?_
  rotate_left
  · intro W9 hSw
    obtain ⟨s0, s1⟩ := hSw
    go_simp
    try with_reducible rfl
  simp only [Act.put, List.setIfInBounds_toArray]
  try simp only [List.set_cons_zero, List.set_cons_succ]
  try simp only [List.getElem_toArray]
  repeat (first | simp only [List.getElem_cons_zero] | simp only [List.getElem_cons_succ])
  refine anyT_one' (i := 8) (by kernel_rfl) rfl (by rfl) (fun K hK => ?_)
  have HK := Lib.hid hK
  clear hK
  refine wp_append_any (.tmp 36) (.tmp 38) 25 (by rfl) wB.heap.size 42 i2 _ 4 48 Tryz.underlying25 ri0 ri1 ri2 ri3 rfl (by omega) v2 R.length (R.flatMap rlC) (by rfl) D2.out.1.o2 a2 R1.length c2 (R1.flatMap rlC) (by rfl) D2.out.2.none D2.out.2.len D2.out.2.row (one_rls R1) (by unfold maxLen; omega) (by omega) D2.out.1.l.size ?_
  intro u2 k2 ho hg
  obtain ⟨pa2, pc2, rfl⟩ := Go.Proofs.YtjgcjnkeeiaafaaGreatDoor.B.own_slice ho
  have hm := D2.out.1.mid2 hg
  have hxm := (hg.block x (blk_lt XD2.out) (fun e => own_far D2.out.1.o2 XD2.out (by decide) e.symm)).trans XD2.out
  have T2 : Hid (k2.cell? ⟨bw, 2, none⟩ = some v2 ∧ k2.cell? ⟨x, 2, none⟩ = some (.slice a2 R1.length c2)) := Lib.hid ⟨cell_blk (i := 2) hm rfl, cell_blk (i := 2) hxm rfl⟩
  have fj := frozen_blk (i := 2) hm
  have lj := blk_lt hm
  replace Q3 := Lib.hid ((Q3.out.below hd2).past (i := 2) (u := (.slice pa2 (R.length + R1.length) pc2)) D2.out.1.o2 (by decide) hg hm (by decide))
  replace HRO := Lib.hid (fun u hu => kp (Go.Proofs.YtjgcjnkeeiaafaaGreatDoor.B.own_below (HRO.out u hu) hd2) D2.out.1.o2 (by decide) hg hm (by decide) 2 (.slice pa2 (R.length + R1.length) pc2))
  have hx2 := box_past (bw := bw) (i := 2) (u := (.slice pa2 (R.length + R1.length) pc2)) XD2.out D2.out.1.o2 (by decide) hg hm (by decide)
  replace X : Hid (AX wB bw (.slice pa0 (G.length + G1.length) pc0) (.slice pa1 (E.length + E1.length) pc1) (.slice pa2 (R.length + R1.length) pc2) v3 (G ++ G1) (E ++ E1) (R ++ R1) U s bl x (.slice a0 G1.length c0) (.slice a1 E1.length c1) (.slice a2 R1.length c2) (.slice a3 N.length c3) (k2.setCell ⟨bw, 2, none⟩ (.slice pa2 (R.length + R1.length) pc2))) := Lib.hid ⟨D2.out.1.put2 ho hg, hx2⟩
  clear ho hg hm hxm hx2 D2 XD2 hd2 S2
  refine HK.out _ _ (fun _ => T2.out) ?_
  clear HK K
  simp only [Act.put, List.setIfInBounds_toArray]
  try simp only [List.set_cons_zero, List.set_cons_succ]
  try simp only [List.getElem_toArray]
  repeat (first | simp only [List.getElem_cons_zero] | simp only [List.getElem_cons_succ])
  refine anyT_one' (i := 9) (by kernel_rfl) rfl (by rfl) (fun K hK => ?_)
  have HK := Lib.hid hK
  clear hK
  unfold Oper.wp
  go_simp
  refine HK.out _ _ (fun _ => T2.out) ?_
  clear HK K
  refine anyT_one' (i := 10) (by kernel_rfl) rfl (by rfl) (fun K hK => ?_)
  have HK := Lib.hid hK
  clear hK
  unfold Oper.wp
  go_simp
  refine HK.out _ _ (fun _ => T2.out) ?_
  clear HK K
  refine anyT_one' (i := 11) (by kernel_rfl) rfl (by rfl) (fun K hK => ?_)
  have HK := Lib.hid hK
  clear hK
  unfold Oper.wp
  go_simp
  refine HK.out _ _ (fun _ => T2.out) ?_
  clear HK K
  refine anyT_one' (i := 12) (by kernel_rfl) rfl (by rfl) (fun K hK => ?_)
  have HK := Lib.hid hK
  clear hK
  obtain ⟨t0, t1⟩ := T2.out
  unfold Oper.wp
  go_simp
  refine HK.out _ _ (fun h => absurd rfl h) ?_
  clear HK K t0 t1 T2 fj lj
  refine anyT_done (by kernel_rfl) ?_ _
  go_wp2_with fail
  obtain ⟨K2, hK2⟩ : ∃ K2, K2 = k2.setCell ⟨bw, 2, none⟩ (.slice pa2 (R.length + R1.length) pc2) := ⟨_, rfl⟩
  rw [← hK2] at X Q3 HRO
  rw [← hK2]
  clear hK2 Q2
  have hd3 : Below K2.heap.size K2 K2.drew := below_draws (Below.refl _ _) 1
  have D3 := Lib.hid (And.intro (X.out.h.call hd3) (Q3.out.below hd3))
  have XD3 := Lib.hid ((hd3.block _ X.out.xc.2).trans X.out.x)
  have S3 : Hid (K2.drew.cell? ⟨bw, 3, none⟩ = some v3 ∧ K2.drew.cell? ⟨x, 3, none⟩ = some (.slice a3 N.length c3)) := Lib.hid ⟨cell_blk (i := 3) D3.out.1.f rfl, cell_blk (i := 3) XD3.out rfl⟩
  refine wp_region_T (S := fun W' => W'.cell? ⟨bw, 3, none⟩ = some v3 ∧ W'.cell? ⟨x, 3, none⟩ = some (.slice a3 N.length c3)) (z := 12) (by kernel_rfl) ?_
  refine anyT_take (i := 0) 0 [] (v := ?_) rfl (by kernel_rfl) (by kernel_rfl) (by kernel_rfl) (by kernel_rfl) (fun _ _ _ h => h) S3.out (by rfl) ?_ ?_
  rotate_left
  · intro W9 hSw
    go_simp
    try with_reducible rfl
  simp only [Act.put, List.setIfInBounds_toArray]
  try simp only [List.set_cons_zero, List.set_cons_succ]
  try simp only [List.getElem_toArray]
  repeat (first | simp only [List.getElem_cons_zero] | simp only [List.getElem_cons_succ])
  refine anyT_take (i := 1) 1 [] (v := ?_) rfl (by kernel_rfl) (by kernel_rfl) (by kernel_rfl) (by kernel_rfl) (fun _ _ _ h => h) S3.out (by rfl) ?_ ?_
  rotate_left
  · intro W9 hSw
    go_simp
    try with_reducible rfl
  simp only [Act.put, List.setIfInBounds_toArray]
  try simp only [List.set_cons_zero, List.set_cons_succ]
  try simp only [List.getElem_toArray]
  repeat (first | simp only [List.getElem_cons_zero] | simp only [List.getElem_cons_succ])
  refine anyT_take (i := 2) 2 [] (v := ?_) rfl (by kernel_rfl) (by kernel_rfl) (by kernel_rfl) (by kernel_rfl) (fun _ _ _ h => h) S3.out (by rfl) ?_ ?_
  rotate_left
  · intro W9 hSw
    go_simp
    try with_reducible rfl
  simp only [Act.put, List.setIfInBounds_toArray]
  try simp only [List.set_cons_zero, List.set_cons_succ]
  try simp only [List.getElem_toArray]
  repeat (first | simp only [List.getElem_cons_zero] | simp only [List.getElem_cons_succ])
  refine anyT_take (i := 3) 3 [] (v := ?_) rfl (by kernel_rfl) (by kernel_rfl) (by kernel_rfl) (by kernel_rfl) (fun _ _ _ h => h) S3.out (by rfl) ?_ ?_
  rotate_left
  · intro W9 hSw
    go_simp
    try with_reducible rfl
  simp only [Act.put, List.setIfInBounds_toArray]
  try simp only [List.set_cons_zero, List.set_cons_succ]
  try simp only [List.getElem_toArray]
  repeat (first | simp only [List.getElem_cons_zero] | simp only [List.getElem_cons_succ])
  refine anyT_take (i := 4) 4 [] (v := ?_) rfl (by kernel_rfl) (by kernel_rfl) (by kernel_rfl) (by kernel_rfl) (fun _ _ _ h => h) S3.out (by rfl) ?_ ?_
  rotate_left
  · intro W9 hSw
    go_simp
    try with_reducible rfl
  simp only [Act.put, List.setIfInBounds_toArray]
  try simp only [List.set_cons_zero, List.set_cons_succ]
  try simp only [List.getElem_toArray]
  repeat (first | simp only [List.getElem_cons_zero] | simp only [List.getElem_cons_succ])
  refine anyT_take (i := 5) 5 [] (v := ?_) rfl (by kernel_rfl) (by kernel_rfl) (by kernel_rfl) (by kernel_rfl) (fun _ _ _ h => h) S3.out (by rfl) ?_ ?_
  rotate_left
  · intro W9 hSw
    obtain ⟨s0, s1⟩ := hSw
    go_simp
    try with_reducible rfl
  simp only [Act.put, List.setIfInBounds_toArray]
  try simp only [List.set_cons_zero, List.set_cons_succ]
  try simp only [List.getElem_toArray]
  repeat (first | simp only [List.getElem_cons_zero] | simp only [List.getElem_cons_succ])
  refine anyT_take (i := 6) 6 [] (v := ?_) rfl (by kernel_rfl) (by kernel_rfl) (by kernel_rfl) (by kernel_rfl) (fun _ _ _ h => h) S3.out (by rfl) ?_ ?_
  rotate_left
  · intro W9 hSw
    go_simp
    try with_reducible rfl
  simp only [Act.put, List.setIfInBounds_toArray]
  try simp only [List.set_cons_zero, List.set_cons_succ]
  try simp only [List.getElem_toArray]
  repeat (first | simp only [List.getElem_cons_zero] | simp only [List.getElem_cons_succ])
  refine anyT_take (i := 7) 7 [] (v := ?_) rfl (by kernel_rfl) (by kernel_rfl) (by kernel_rfl) (by kernel_rfl) (fun _ _ _ h => h) S3.out (by rfl) ?_ ?_
  rotate_left
  · intro W9 hSw
    obtain ⟨s0, s1⟩ := hSw
    go_simp
    try with_reducible rfl
  simp only [Act.put, List.setIfInBounds_toArray]
  try simp only [List.set_cons_zero, List.set_cons_succ]
  try simp only [List.getElem_toArray]
  repeat (first | simp only [List.getElem_cons_zero] | simp only [List.getElem_cons_succ])
  refine anyT_one' (i := 8) (by kernel_rfl) rfl (by rfl) (fun K hK => ?_)
  have HK := Lib.hid hK
  clear hK
  refine wp_append_any (.tmp 48) (.tmp 50) 26 (by rfl) wB.heap.size 74 i3 _ 3 56 Tryz.underlying26 ui0 ui1 ui2 ui3 rfl (by omega) v3 U.length (U.flatMap usC) (by rfl) D3.out.1.o3 a3 N.length c3 (N.flatMap usC) (by rfl) D3.out.2.none D3.out.2.len D3.out.2.row (one_uss N) (by unfold maxLen; omega) (by omega) D3.out.1.l.size ?_
  intro u3 k3 ho hg
  obtain ⟨pa3, pc3, rfl⟩ := Go.Proofs.YtjgcjnkeeiaafaaGreatDoor.B.own_slice ho
  have hm := D3.out.1.mid3 hg
  have hxm := (hg.block x (blk_lt XD3.out) (fun e => own_far D3.out.1.o3 XD3.out (by decide) e.symm)).trans XD3.out
  have T3 : Hid (k3.cell? ⟨bw, 3, none⟩ = some v3 ∧ k3.cell? ⟨x, 3, none⟩ = some (.slice a3 N.length c3)) := Lib.hid ⟨cell_blk (i := 3) hm rfl, cell_blk (i := 3) hxm rfl⟩
  have fj := frozen_blk (i := 3) hm
  have lj := blk_lt hm
  replace HRO := Lib.hid (fun u hu => Go.Proofs.YtjgcjnkeeiaafaaGreatDoor.B.own_below (HRO.out u hu) hd3)
  have hx3 := box_past (bw := bw) (i := 3) (u := (.slice pa3 (U.length + N.length) pc3)) XD3.out D3.out.1.o3 (by decide) hg hm (by decide)
  replace X : Hid (AX wB bw (.slice pa0 (G.length + G1.length) pc0) (.slice pa1 (E.length + E1.length) pc1) (.slice pa2 (R.length + R1.length) pc2) (.slice pa3 (U.length + N.length) pc3) (G ++ G1) (E ++ E1) (R ++ R1) (U ++ N) s bl x (.slice a0 G1.length c0) (.slice a1 E1.length c1) (.slice a2 R1.length c2) (.slice a3 N.length c3) (k3.setCell ⟨bw, 3, none⟩ (.slice pa3 (U.length + N.length) pc3))) := Lib.hid ⟨D3.out.1.put3 ho hg HRO.out, hx3⟩
  clear ho hg hm hxm hx3 D3 XD3 hd3 S3
  refine HK.out _ _ (fun _ => T3.out) ?_
  clear HK K
  simp only [Act.put, List.setIfInBounds_toArray]
  try simp only [List.set_cons_zero, List.set_cons_succ]
  try simp only [List.getElem_toArray]
  repeat (first | simp only [List.getElem_cons_zero] | simp only [List.getElem_cons_succ])
  refine anyT_one' (i := 9) (by kernel_rfl) rfl (by rfl) (fun K hK => ?_)
  have HK := Lib.hid hK
  clear hK
  unfold Oper.wp
  go_simp
  refine HK.out _ _ (fun _ => T3.out) ?_
  clear HK K
  refine anyT_one' (i := 10) (by kernel_rfl) rfl (by rfl) (fun K hK => ?_)
  have HK := Lib.hid hK
  clear hK
  unfold Oper.wp
  go_simp
  refine HK.out _ _ (fun _ => T3.out) ?_
  clear HK K
  refine anyT_one' (i := 11) (by kernel_rfl) rfl (by rfl) (fun K hK => ?_)
  have HK := Lib.hid hK
  clear hK
  unfold Oper.wp
  go_simp
  refine HK.out _ _ (fun _ => T3.out) ?_
  clear HK K
  refine anyT_one' (i := 12) (by kernel_rfl) rfl (by rfl) (fun K hK => ?_)
  have HK := Lib.hid hK
  clear hK
  obtain ⟨t0, t1⟩ := T3.out
  unfold Oper.wp
  go_simp
  refine HK.out _ _ (fun h => absurd rfl h) ?_
  clear HK K t0 t1 T3 fj lj
  refine anyT_done (by kernel_rfl) ?_ _
  obtain ⟨K3, hK3⟩ : ∃ K3, K3 = k3.setCell ⟨bw, 3, none⟩ (.slice pa3 (U.length + N.length) pc3) := ⟨_, rfl⟩
  rw [← hK3] at X
  rw [← hK3]
  clear hK3 Q3
  obtain ⟨⟨y0, y1, y2, y3⟩, yl⟩ := X.out.xc
  go_wp2_with fail
  refine (HP.out K3).mono ?_
  rintro e w8 ⟨rfl, hb8⟩
  have H8 := Lib.hid (X.out.h.call hb8)
  have hp6 := HPL.out
  have hb9 := hbl p hp6
  have hp0 : (0 : Int) ≤ (p : Int) := Int.natCast_nonneg _
  have hp1 : (p : Int) < 5 := by omega
  clear hb8 X HP y0 y1 y2 y3 yl
  go_wp2_with fail
  have hd8 : Below w8.heap.size w8 w8.drew := below_draws (Below.refl _ _) 1
  have H9 := Lib.hid (H8.out.call hd8)
  have S8 := Lib.hid (H9.out.sc hp6)
  have hl9 := H9.out.lt
  refine wp_region_T (S := fun W' => W'.cell? ⟨bw, 4 + p, none⟩ = some (s p)) (z := 14) (by kernel_rfl) ?_
  generalize w8.drew = w9 at *
  refine anyT_take (i := 0) 0 [] (v := ?_) rfl (by kernel_rfl) (by kernel_rfl) (by kernel_rfl) (by kernel_rfl) (fun _ _ _ h => h) S8.out (by rfl) ?_ ?_
  rotate_left
  · intro W9 hSw
    go_simp
    try with_reducible rfl
  simp only [Act.put, List.setIfInBounds_toArray]
  try simp only [List.set_cons_zero, List.set_cons_succ]
  try simp only [List.getElem_toArray]
  repeat (first | simp only [List.getElem_cons_zero] | simp only [List.getElem_cons_succ])
  refine anyT_take (i := 1) 1 [] (v := ?_) rfl (by kernel_rfl) (by kernel_rfl) (by kernel_rfl) (by kernel_rfl) (fun _ _ _ h => h) S8.out (by rfl) ?_ ?_
  rotate_left
  · intro W9 hSw
    go_simp
    try with_reducible rfl
  simp only [Act.put, List.setIfInBounds_toArray]
  try simp only [List.set_cons_zero, List.set_cons_succ]
  try simp only [List.getElem_toArray]
  repeat (first | simp only [List.getElem_cons_zero] | simp only [List.getElem_cons_succ])
  refine anyT_take (i := 2) 2 [] (v := ?_) rfl (by kernel_rfl) (by kernel_rfl) (by kernel_rfl) (by kernel_rfl) (fun _ _ _ h => h) S8.out (by rfl) ?_ ?_
  rotate_left
  · intro W9 hSw
    go_simp
    try with_reducible rfl
  simp only [Act.put, List.setIfInBounds_toArray]
  try simp only [List.set_cons_zero, List.set_cons_succ]
  try simp only [List.getElem_toArray]
  repeat (first | simp only [List.getElem_cons_zero] | simp only [List.getElem_cons_succ])
  refine anyT_take (i := 3) 3 [] (v := ?_) rfl (by kernel_rfl) (by kernel_rfl) (by kernel_rfl) (by kernel_rfl) (fun _ _ _ h => h) S8.out (by rfl) ?_ ?_
  rotate_left
  · intro W9 hSw
    go_simp
    try with_reducible rfl
  simp only [Act.put, List.setIfInBounds_toArray]
  try simp only [List.set_cons_zero, List.set_cons_succ]
  try simp only [List.getElem_toArray]
  repeat (first | simp only [List.getElem_cons_zero] | simp only [List.getElem_cons_succ])
  refine anyT_take (i := 4) 4 [] (v := ?_) rfl (by kernel_rfl) (by kernel_rfl) (by kernel_rfl) (by kernel_rfl) (fun _ _ _ h => h) S8.out (by rfl) ?_ ?_
  rotate_left
  · intro W9 hSw
    go_simp
    try with_reducible rfl
  simp only [Act.put, List.setIfInBounds_toArray]
  try simp only [List.set_cons_zero, List.set_cons_succ]
  try simp only [List.getElem_toArray]
  repeat (first | simp only [List.getElem_cons_zero] | simp only [List.getElem_cons_succ])
  refine anyT_take (i := 5) 5 [] (v := ?_) rfl (by kernel_rfl) (by kernel_rfl) (by kernel_rfl) (by kernel_rfl) (fun _ _ _ h => h) S8.out (by rfl) ?_ ?_
  rotate_left
  · intro W9 hSw
    go_simp
    try with_reducible rfl
  simp only [Act.put, List.setIfInBounds_toArray]
  try simp only [List.set_cons_zero, List.set_cons_succ]
  try simp only [List.getElem_toArray]
  repeat (first | simp only [List.getElem_cons_zero] | simp only [List.getElem_cons_succ])
  refine anyT_take (i := 6) 6 [] (v := ?_) rfl (by kernel_rfl) (by kernel_rfl) (by kernel_rfl) (by kernel_rfl) (fun _ _ _ h => h) S8.out (by rfl) ?_ ?_
  rotate_left
  · intro W9 hSw
    go_simp
    try with_reducible rfl
  simp only [Act.put, List.setIfInBounds_toArray]
  try simp only [List.set_cons_zero, List.set_cons_succ]
  try simp only [List.getElem_toArray]
  repeat (first | simp only [List.getElem_cons_zero] | simp only [List.getElem_cons_succ])
  refine anyT_take (i := 7) 7 [] (v := ?_) rfl (by kernel_rfl) (by kernel_rfl) (by kernel_rfl) (by kernel_rfl) (fun _ _ _ h => h) S8.out (by rfl) ?_ ?_
  rotate_left
  · intro W9 hSw
    go_simp
    try with_reducible rfl
  simp only [Act.put, List.setIfInBounds_toArray]
  try simp only [List.set_cons_zero, List.set_cons_succ]
  try simp only [List.getElem_toArray]
  repeat (first | simp only [List.getElem_cons_zero] | simp only [List.getElem_cons_succ])
  refine anyT_take (i := 8) 8 [] (v := ?_) rfl (by kernel_rfl) (by kernel_rfl) (by kernel_rfl) (by kernel_rfl) (fun _ _ _ h => h) S8.out (by rfl) ?_ ?_
  rotate_left
  · intro W9 hSw
    go_simp
    try with_reducible rfl
  simp only [Act.put, List.setIfInBounds_toArray]
  try simp only [List.set_cons_zero, List.set_cons_succ]
  try simp only [List.getElem_toArray]
  repeat (first | simp only [List.getElem_cons_zero] | simp only [List.getElem_cons_succ])
  refine anyT_take (i := 11) 13 [12, 11] (v := ?_) rfl (by kernel_rfl) (by kernel_rfl) (by kernel_rfl) (by kernel_rfl) (fun _ _ _ h => h) S8.out (by rfl) ?_ ?_
  rotate_left
  · intro W9 hSw
    go_simp
    try with_reducible rfl
  simp only [Act.put, List.setIfInBounds_toArray]
  try simp only [List.set_cons_zero, List.set_cons_succ]
  try simp only [List.getElem_toArray]
  repeat (first | simp only [List.getElem_cons_zero] | simp only [List.getElem_cons_succ])
  refine anyT_take (i := 12) 13 [12] (v := ?_) rfl (by kernel_rfl) (by kernel_rfl) (by kernel_rfl) (by kernel_rfl) (fun _ _ _ h => h) S8.out (by rfl) ?_ ?_
  rotate_left
  · intro W9 hSw
    go_simp
    try with_reducible rfl
  simp only [Act.put, List.setIfInBounds_toArray]
  try simp only [List.set_cons_zero, List.set_cons_succ]
  try simp only [List.getElem_toArray]
  repeat (first | simp only [List.getElem_cons_zero] | simp only [List.getElem_cons_succ])
  have hal9 : Below w9.heap.size w9 (w9.alloc (.cells #[.int .i64 at_] 3)) := (Below.refl _ _).alloc (Nat.le_refl _) _
  have HA := Lib.hid (H9.out.call hal9)
  have HNW := Lib.hid (heap_new w9 (.cells #[.int .i64 at_] 3))
  refine anyT_one' (i := 9) (by kernel_rfl) rfl (by rfl) (fun K hK => ?_)
  have HK := Lib.hid hK
  clear hK
  unfold Oper.wp
  go_simp
  refine HK.out _ _ (fun _ => HA.out.sc hp6) ?_
  clear HK K
  refine anyT_one' (i := 10) (by kernel_rfl) rfl (by rfl) (fun K hK => ?_)
  have HK := Lib.hid hK
  clear hK
  have HSZ := HA.out.l.size
  refine wp_append1 (.tmp 64) (.tmp 66) 49 (by rfl) wB.heap.size 3 i4 _ 1 8 Tryz.underlying49 ni0 ni1 ni2 ni3 rfl (by omega) (s p) (bl p).length ((bl p).map (Value.int .i64)) (by rfl) (HA.out.st p hp6) w9.heap.size 1 1 [.int .i64 at_] (by rfl) (by rfl) (fun j u hj => ?_) (fun u hu => ?_) (by unfold maxLen; omega) (by omega) HSZ ?_
  · match j, hj with
    | 0, hj => cases hj; exact cell_blk HNW.out rfl
  · obtain rfl := List.mem_singleton.1 hu; rfl
  intro u8 k8 ho hg hat
  obtain ⟨pa8, pc8, rfl⟩ := Go.Proofs.YtjgcjnkeeiaafaaGreatDoor.B.own_slice ho
  have hm := HA.out.midS hp6 hg
  have T8 : Hid (k8.cell? ⟨bw, 4 + p, none⟩ = some (s p)) := Lib.hid (by
    refine cell_blk hm ?_
    obtain h | h | h | h | h : p = 0 ∨ p = 1 ∨ p = 2 ∨ p = 3 ∨ p = 4 := by omega
    all_goals (rw [h]; rfl))
  have f8 : k8.frozen? ⟨bw, 4 + p, none⟩ = false := frozen_blk hm
  have l8 := blk_lt hm
  have HF := Lib.hid (HA.out.putS hp6 ho hg (hat.imp (fun e => e) (fun e => ⟨_, e, Nat.le_refl _⟩)))
  clear ho hg hat hm HA HNW H9 H8
  refine HK.out _ _ (fun _ => T8.out) ?_
  clear HK K
  simp only [Act.put, List.setIfInBounds_toArray]
  try simp only [List.set_cons_zero, List.set_cons_succ]
  try simp only [List.getElem_toArray]
  repeat (first | simp only [List.getElem_cons_zero] | simp only [List.getElem_cons_succ])
  refine anyT_one' (i := 13) (by kernel_rfl) rfl (by rfl) (fun K hK => ?_)
  have HK := Lib.hid hK
  clear hK
  unfold Oper.wp
  go_simp
  refine HK.out _ _ (fun _ => T8.out) ?_
  clear HK K
  refine anyT_one' (i := 14) (by kernel_rfl) rfl (by rfl) (fun K hK => ?_)
  have HK := Lib.hid hK
  clear hK
  have t8 := T8.out
  unfold Oper.wp
  go_simp
  refine HK.out _ _ (fun h => absurd rfl h) ?_
  clear HK K t8 T8 f8 l8
  refine anyT_done (by kernel_rfl) ?_ _
  go_wp2_with fail
  go_end0
  exact HPO.out _ _ _ _ _ N _ HF.out HNB.out
end Go.Proofs.YtjgcjnkeeiaafaaGreatDoor.P3.C
