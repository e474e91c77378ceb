/-
  Two regions of Turn that draw their order, in a round.
-/
import Derived.Test.YtaagpnepkjkfoaaRoA
namespace Go.Proofs.Ytaagpnepkjkfoaa.R6
open Go.RowKit Go.Shelf Go.Proofs.Ytaagpnepkjkfoaa.B

theorem step_append_at {P : Program} {ops : Array Oper} {o : Oper} {a : Act} {w : World} {K : Act → World → Prop} {Q : Exit → Act → World → Prop} {E : Prop}
    (hg : o.guard = none) (s x : Operand) (t : TypeId) (hop : o.op = Go.Op.call { callee := Callee.builtin Builtin.append, args := #[s, x], argTypes := #[t, t] })
    (B : Nat) (e : TypeId) (i : TypeInfo) (z : Value) (size bytes : Nat) (h1 : P.underlying t = some (.slice e)) (h2 : P.info? e = some i) (h3 : i.zero = some z) (h4 : i.size = size) (h5 : i.bytes = bytes) (h6 : z.cells.size = size) (h7 : 0 < size)
    (v : Value) (n : Nat) (xs : List Value) (hs : a.eval s = v) (hown : w.ownsRow B e size v n xs)
    (ad : Addr) (m c : Nat) (news : List Value) (hx : a.eval x = .slice (some ad) m c) (hn : news.length = m * size) (hc : ∀ j u, news[j]? = some u → w.cell? (ad.add j) = some u) (h1c : ∀ u ∈ news, u.oneCell' = true)
    (b1 : n + m ≤ maxLen) (b2 : (n + m) * bytes ≤ 140737488355328) (hb : B ≤ w.heap.size)
    (hK : ∀ v' w', w'.ownsRow B e size v' (n + m) (xs ++ news) → w.grownBy w' v.ownBlock → (v'.ownBlock = v.ownBlock ∨ v'.ownBlock = some w.heap.size) → K (a.put o.dst v') w') :
    if Region.wanted o (yielded ops a.tmps) = true then Oper.wp P o a w K Q else E := by
  have hw : Region.wanted o (yielded ops a.tmps) = true := by simp [Region.wanted, hg]
  rw [if_pos hw]
  obtain ⟨v', w', hrun, r1, r2, _, r4⟩ := run_append_own_at (P := P) w B t o.type e i z size bytes h1 h2 h3 h4 h5 h6 h7 v n xs hown ad m c news hn hc h1c b1 b2 hb
  unfold Oper.wp
  simp [execOp, hop, resolve, invoke, builtin, hs, hx, hrun, Result.andThen]
  exact hK v' w' r1 r2 r4

set_option maxRecDepth 100000 in
set_option maxHeartbeats 4000000 in
theorem app_region (lp m : Nat) (U : World) (g bx x k vc N c0 : Nat) (va : Option Addr) (lr : List Int) (vs : List Value) {y0 y1 y2 y7 y8 y9 y10 y11 y12 y13 y14 y15 y16 y17 y18 y19 y20 y21 y22 y23 y24 y25 y26 y27 y28 y29 y30 y31 y32 y33 y34 y35 y36 y37 y38 y39 y40 y41 y42 y43 y44 : Value}
    (cb : U.cell? ⟨g + 1, 0, none⟩ = some (.slice (some ⟨g, 0, none⟩) N c0)) (cbx : U.cell? ⟨bx, 0, none⟩ = some (iv k)) (hx : x < N) (hgl : g + 1 < U.heap.size)
    (ho : U.ownsRow (g + 2) 3 1 (.slice va lr.length vc) lr.length (lr.map (Value.int .i64))) (hlr : lr.length ≤ 100000)
    (hout : U.ownsRow g 26 1 (.slice (some ⟨g, 0, none⟩) N c0) N vs) (hvx : U.cell? ⟨g, x, none⟩ = some (.slice va lr.length vc)) :
    Code.wpIn (Fence.wide.inRound lp) m Try.prog (Code.region 9 #[{ dst := some 36, op := Go.Op.load 23 (Operand.tmp 3), type := 23, pos := "ring.go:92", after := #[], guard := none },
          { dst := some 37, op := Go.Op.move (Operand.tmp 5), type := 3, pos := "ring.go:92", after := #[], guard := none },
          { dst := some 38, op := Go.Op.move (Operand.tmp 6), type := 26, pos := "ring.go:92", after := #[], guard := none },
          { dst := some 39, op := Go.Op.load 3 (Operand.tmp 4), type := 3, pos := "ring.go:92", after := #[], guard := none },
          { dst := some 40, op := Go.Op.buildSlice 26 1 #[(0, Operand.tmp 39)], type := 26, pos := "ring.go:92", after := #[{ on := 3, ground := Ground.data }], guard := none },
          { dst := some 41, op := Go.Op.call { callee := Callee.builtin Builtin.append, args := #[Operand.tmp 38, Operand.tmp 40], argTypes := #[26, 26] }, type := 26, pos := "ring.go:92",
            after := #[{ on := 2, ground := Ground.data }, { on := 4, ground := Ground.data }], guard := none },
          { dst := some 42, op := Go.Op.indexAddr 23 (Operand.tmp 36) (Operand.tmp 37), type := 0, pos := "ring.go:92",
            after := #[{ on := 0, ground := Ground.data }, { on := 1, ground := Ground.data }, { on := 0, ground := Ground.phase }, { on := 1, ground := Ground.phase }, { on := 2, ground := Ground.phase }, { on := 3, ground := Ground.phase }, { on := 4, ground := Ground.phase }, { on := 5, ground := Ground.phase }],
            guard := none },
          { dst := none, op := Go.Op.store 26 (Operand.tmp 42) (Operand.tmp 41), type := 0, pos := "ring.go:92",
            after := #[{ on := 6, ground := Ground.data }, { on := 5, ground := Ground.data }, { on := 5, ground := Ground.chain }, { on := 0, ground := Ground.phase }, { on := 1, ground := Ground.phase }, { on := 2, ground := Ground.phase }, { on := 3, ground := Ground.phase }, { on := 4, ground := Ground.phase }, { on := 5, ground := Ground.phase }],
            guard := none }] true)
      (Exit.then (fun _ W' => ∃ v' W1, W1.ownsRow (g + 2) 3 1 v' (lr.length + 1) (lr.map (Value.int .i64) ++ [iv k]) ∧ ((U.alloc (.cells #[iv k] 3)).drew).grownBy W1 (Value.slice va lr.length vc).ownBlock ∧ (v'.ownBlock = (Value.slice va lr.length vc).ownBlock ∨ v'.ownBlock = some (U.heap.size + 1)) ∧ W' = W1.setCell ⟨g, x, none⟩ v') (fun _ _ _ => False))
      { tmps := #[y0, y1, y2, pt (g + 1), pt bx, iv x, .slice va lr.length vc, y7, y8, y9, y10, y11, y12, y13, y14, y15, y16, y17, y18, y19, y20, y21, y22, y23, y24, y25, y26, y27, y28, y29, y30, y31, y32, y33, y34, y35, y36, y37, y38, y39, y40, y41, y42, y43, y44], defers := [] } U := by
  obtain ⟨i0, hi0, hi1, hi2, hi3⟩ := info_parts info_int'
  have hmx : Try.prog.follows .mixedOrders = true := by kernel_rfl
  have HO := Lib.hid ho
  have HOUT := Lib.hid hout
  have hk0 : (0 : Int) ≤ (x : Int) := Int.natCast_nonneg _
  have hk1 : (x : Int) < (N : Int) := by omega
  clear ho hout
  refine wpIn_region_any hmx (any_round (by kernel_rfl) _ _ _ _ ?_)
  change wpAny _ _ _ _ _ _ _ (World.drew _)
  refine wpAny_take (i := 1) (v := ?v1) rfl (by kernel_rfl) (by kernel_rfl) (by kernel_rfl) (fun _ _ _ h => h) (Or.inl ⟨by rfl, ?y1⟩) ?_
  case y1 => intro w; go_simp; try with_reducible rfl
  refine wpAny_take (i := 2) (v := ?v2) rfl (by kernel_rfl) (by kernel_rfl) (by kernel_rfl) (fun _ _ _ h => h) (Or.inl ⟨by rfl, ?y2⟩) ?_
  case y2 => intro w; go_simp; try with_reducible rfl
  have HC1 : Hid (∀ j u, ([iv k] : List Value)[j]? = some u → ((U.alloc (.cells #[iv k] 3)).drew).cell? ((⟨U.heap.size, 0, none⟩ : Addr).add j) = some u) := Lib.hid (fun j u hj => by
    have hn := heap_new U (.cells #[iv k] 3)
    match j, hj with
    | 0, hj => cases hj; exact cell_blk (w := World.drew _) hn rfl)
  have HC2 : Hid (∀ u ∈ ([iv k] : List Value), u.oneCell' = true) := Lib.hid (fun u hu => by simp at hu; rw [hu]; rfl)
  have HF : Hid (∀ w4, ((U.alloc (.cells #[iv k] 3)).drew).grownBy w4 (Value.slice va lr.length vc).ownBlock → w4.cell? ⟨g + 1, 0, none⟩ = some (.slice (some ⟨g, 0, none⟩) N c0) ∧ w4.cell? ⟨g, x, none⟩ = some (.slice va lr.length vc) ∧ w4.frozen? ⟨g, x, none⟩ = false ∧ g < w4.heap.size) := Lib.hid (fun w4 h2 => by
    have hz := h2.size
    have hsz : ((U.alloc (.cells #[iv k] 3)).drew).heap.size = U.heap.size + 1 := by rw [World.size_drew, World.size_alloc]
    have hne1 : some (g + 1) ≠ (Value.slice va lr.length vc).ownBlock := fun e => by have := (own_block HO.out e.symm).1; omega
    have hne2 : some g ≠ (Value.slice va lr.length vc).ownBlock := fun e => by have := (own_block HO.out e.symm).1; omega
    have hb : Below U.heap.size U ((U.alloc (.cells #[iv k] 3)).drew) := below_draws ((Below.refl _ _).alloc (Nat.le_refl _) _) 1
    have e1 : w4.heap[g + 1]? = U.heap[g + 1]? := (h2.block _ (by omega) hne1).trans (hb.block _ (by omega))
    have e2 : w4.heap[g]? = U.heap[g]? := (h2.block _ (by omega) hne2).trans (hb.block _ (by omega))
    have hout4 : w4.ownsRow g 26 1 (.slice (some ⟨g, 0, none⟩) N c0) N vs := own_keep HOUT.out (fun q hq => by simp only [Value.ownBlock, Option.some.injEq] at hq; subst hq; exact e2)
    exact ⟨(World.cell?_of_block (w := U) (a := ⟨g + 1, 0, none⟩) e1).trans cb, (World.cell?_of_block (w := U) (a := ⟨g, x, none⟩) e2).trans hvx, hout4.frozenAt x, by omega⟩)
  refine wpAny_ready (rs := [0, 3]) (by kernel_rfl) (by simp) ?_
  refine AllReady.cons rfl (fun K hK => ?_) (AllReady.cons rfl (fun K hK => ?_) AllReady.nil)
  · go_simp
    refine hK _ _ ?_
    clear hK K
    refine wpAny_ready (rs := [3]) (by kernel_rfl) (by simp) ?_
    refine AllReady.cons rfl (fun K hK => ?_) AllReady.nil
    go_simp
    refine hK _ _ ?_
    clear hK K
    refine wpAny_ready (rs := [4]) (by kernel_rfl) (by simp) ?_
    refine AllReady.cons rfl (fun K hK => ?_) AllReady.nil
    go_simp
    refine hK _ _ ?_
    clear hK K
    refine wpAny_ready (rs := [5]) (by kernel_rfl) (by simp) ?_
    refine AllReady.cons rfl (fun K hK => ?_) AllReady.nil
    refine step_append_at rfl (.tmp 38) (.tmp 40) 26 rfl (g + 2) 3 i0 _ 1 8 Try.underlying26 hi0 hi1 hi2 hi3 rfl (by omega) _ _ _ rfl (HO.out.alloc _).drew ⟨U.heap.size, 0, none⟩ 1 1 [iv k] rfl rfl HC1.out HC2.out (by unfold maxLen; omega) (by omega) (by simp; omega) ?_
    intro v' w4 h1 h2 h3
    obtain ⟨va2, vc2, rfl⟩ := own_slice h1
    obtain ⟨f1, f2, f3, f4⟩ := HF.out w4 h2
    refine hK _ _ ?_
    clear hK K
    refine wpAny_ready (rs := [6]) (by kernel_rfl) (by simp) ?_
    refine AllReady.cons rfl (fun K hK => ?_) AllReady.nil
    go_simp
    refine hK _ _ ?_
    clear hK K
    refine wpAny_ready (rs := [7]) (by kernel_rfl) (by simp) ?_
    refine AllReady.cons rfl (fun K hK => ?_) AllReady.nil
    go_simp
    refine hK _ _ ?_
    clear hK K
    refine wpAny_done (by kernel_rfl) ?_ _
    exact ⟨_, _, h1, h2, h3.imp (fun h => h) (fun h => h.trans (by rw [World.size_drew, World.size_alloc])), rfl⟩
  · go_simp
    refine hK _ _ ?_
    clear hK K
    refine wpAny_ready (rs := [0, 4]) (by kernel_rfl) (by simp) ?_
    refine AllReady.cons rfl (fun K hK => ?_) (AllReady.cons rfl (fun K hK => ?_) AllReady.nil)
    · go_simp
      refine hK _ _ ?_
      clear hK K
      refine wpAny_ready (rs := [4]) (by kernel_rfl) (by simp) ?_
      refine AllReady.cons rfl (fun K hK => ?_) AllReady.nil
      go_simp
      refine hK _ _ ?_
      clear hK K
      refine wpAny_ready (rs := [5]) (by kernel_rfl) (by simp) ?_
      refine AllReady.cons rfl (fun K hK => ?_) AllReady.nil
      refine step_append_at rfl (.tmp 38) (.tmp 40) 26 rfl (g + 2) 3 i0 _ 1 8 Try.underlying26 hi0 hi1 hi2 hi3 rfl (by omega) _ _ _ rfl (HO.out.alloc _).drew ⟨U.heap.size, 0, none⟩ 1 1 [iv k] rfl rfl HC1.out HC2.out (by unfold maxLen; omega) (by omega) (by simp; omega) ?_
      intro v' w4 h1 h2 h3
      obtain ⟨va2, vc2, rfl⟩ := own_slice h1
      obtain ⟨f1, f2, f3, f4⟩ := HF.out w4 h2
      refine hK _ _ ?_
      clear hK K
      refine wpAny_ready (rs := [6]) (by kernel_rfl) (by simp) ?_
      refine AllReady.cons rfl (fun K hK => ?_) AllReady.nil
      go_simp
      refine hK _ _ ?_
      clear hK K
      refine wpAny_ready (rs := [7]) (by kernel_rfl) (by simp) ?_
      refine AllReady.cons rfl (fun K hK => ?_) AllReady.nil
      go_simp
      refine hK _ _ ?_
      clear hK K
      refine wpAny_done (by kernel_rfl) ?_ _
      exact ⟨_, _, h1, h2, h3.imp (fun h => h) (fun h => h.trans (by rw [World.size_drew, World.size_alloc])), rfl⟩
    · go_simp
      refine hK _ _ ?_
      clear hK K
      refine wpAny_ready (rs := [0, 5]) (by kernel_rfl) (by simp) ?_
      refine AllReady.cons rfl (fun K hK => ?_) (AllReady.cons rfl (fun K hK => ?_) AllReady.nil)
      · go_simp
        refine hK _ _ ?_
        clear hK K
        refine wpAny_ready (rs := [5]) (by kernel_rfl) (by simp) ?_
        refine AllReady.cons rfl (fun K hK => ?_) AllReady.nil
        refine step_append_at rfl (.tmp 38) (.tmp 40) 26 rfl (g + 2) 3 i0 _ 1 8 Try.underlying26 hi0 hi1 hi2 hi3 rfl (by omega) _ _ _ rfl (HO.out.alloc _).drew ⟨U.heap.size, 0, none⟩ 1 1 [iv k] rfl rfl HC1.out HC2.out (by unfold maxLen; omega) (by omega) (by simp; omega) ?_
        intro v' w4 h1 h2 h3
        obtain ⟨va2, vc2, rfl⟩ := own_slice h1
        obtain ⟨f1, f2, f3, f4⟩ := HF.out w4 h2
        refine hK _ _ ?_
        clear hK K
        refine wpAny_ready (rs := [6]) (by kernel_rfl) (by simp) ?_
        refine AllReady.cons rfl (fun K hK => ?_) AllReady.nil
        go_simp
        refine hK _ _ ?_
        clear hK K
        refine wpAny_ready (rs := [7]) (by kernel_rfl) (by simp) ?_
        refine AllReady.cons rfl (fun K hK => ?_) AllReady.nil
        go_simp
        refine hK _ _ ?_
        clear hK K
        refine wpAny_done (by kernel_rfl) ?_ _
        exact ⟨_, _, h1, h2, h3.imp (fun h => h) (fun h => h.trans (by rw [World.size_drew, World.size_alloc])), rfl⟩
      · refine step_append_at rfl (.tmp 38) (.tmp 40) 26 rfl (g + 2) 3 i0 _ 1 8 Try.underlying26 hi0 hi1 hi2 hi3 rfl (by omega) _ _ _ rfl (HO.out.alloc _).drew ⟨U.heap.size, 0, none⟩ 1 1 [iv k] rfl rfl HC1.out HC2.out (by unfold maxLen; omega) (by omega) (by simp; omega) ?_
        intro v' w4 h1 h2 h3
        obtain ⟨va2, vc2, rfl⟩ := own_slice h1
        obtain ⟨f1, f2, f3, f4⟩ := HF.out w4 h2
        refine hK _ _ ?_
        clear hK K
        refine wpAny_ready (rs := [0]) (by kernel_rfl) (by simp) ?_
        refine AllReady.cons rfl (fun K hK => ?_) AllReady.nil
        go_simp
        refine hK _ _ ?_
        clear hK K
        refine wpAny_ready (rs := [6]) (by kernel_rfl) (by simp) ?_
        refine AllReady.cons rfl (fun K hK => ?_) AllReady.nil
        go_simp
        refine hK _ _ ?_
        clear hK K
        refine wpAny_ready (rs := [7]) (by kernel_rfl) (by simp) ?_
        refine AllReady.cons rfl (fun K hK => ?_) AllReady.nil
        go_simp
        refine hK _ _ ?_
        clear hK K
        refine wpAny_done (by kernel_rfl) ?_ _
        exact ⟨_, _, h1, h2, h3.imp (fun h => h) (fun h => h.trans (by rw [World.size_drew, World.size_alloc])), rfl⟩

theorem skip_if {c : Bool} {A B : Prop} (h : c = false) (hb : B) : if c = true then A else B := by rw [h]; exact hb
theorem take_if {c : Bool} {A B : Prop} (h : c = true) (ha : A) : if c = true then A else B := by rw [h]; exact ha
structure TC (g bx x : Nat) (lv : Value) (b : Bool) (a : Act) : Prop where
  z : a.tmps.size = 45
  s3 : a.tmps.getD 3 undef = pt (g + 1)
  s4 : a.tmps.getD 4 undef = pt bx
  s5 : a.tmps.getD 5 undef = iv x
  s6 : a.tmps.getD 6 undef = lv
  s35 : a.tmps.getD 35 undef = .bool b
  d : a.defers = []
set_option maxRecDepth 100000 in
set_option maxHeartbeats 4000000 in
theorem cond_region (lp m : Nat) (U : World) (g bx x k vc : Nat) (va : Option Addr) (lr : List Int) {y0 y1 y2 y7 y8 y9 y10 y11 y12 y13 y14 y15 y16 y17 y18 y19 y20 y21 y22 y23 y24 y25 y26 y27 y28 y29 y30 y31 y32 y33 y34 y35 y36 y37 y38 y39 y40 y41 y42 y43 y44 : Value}
    (cbx : U.cell? ⟨bx, 0, none⟩ = some (iv k)) (ho : U.ownsRow (g + 2) 3 1 (.slice va lr.length vc) lr.length (lr.map (Value.int .i64))) (hlr : lr.length ≤ 100000) :
    Code.wpIn (Fence.wide.inRound lp) m Try.prog (Code.region 8 #[{ dst := some 23, op := Go.Op.move (Operand.tmp 6), type := 26, pos := "ring.go:91", after := #[], guard := none },
          { dst := some 24, op := Go.Op.call { callee := Callee.builtin Builtin.len, args := #[Operand.tmp 23], argTypes := #[26] }, type := 3, pos := "ring.go:91", after := #[{ on := 0, ground := Ground.data }], guard := none },
          { dst := some 25, op := Go.Op.binOp BinOp.eql 3 (Operand.tmp 24) (Operand.const (Value.int IntKind.i64 0)) 3, type := 4, pos := "ring.go:91", after := #[{ on := 1, ground := Ground.data }], guard := none },
          { dst := some 26, op := Go.Op.move (Operand.tmp 25), type := 4, pos := "ring.go:91", after := #[{ on := 2, ground := Ground.data }], guard := none },
          { dst := some 27, op := Go.Op.move (Operand.tmp 6), type := 26, pos := "ring.go:91", after := #[{ on := 3, ground := Ground.guard }], guard := some (3, false) },
          { dst := some 28, op := Go.Op.move (Operand.tmp 6), type := 26, pos := "ring.go:91", after := #[{ on := 3, ground := Ground.guard }], guard := some (3, false) },
          { dst := some 29, op := Go.Op.call { callee := Callee.builtin Builtin.len, args := #[Operand.tmp 28], argTypes := #[26] }, type := 3, pos := "ring.go:91", after := #[{ on := 5, ground := Ground.data }, { on := 3, ground := Ground.guard }], guard := some (3, false) },
          { dst := some 30, op := Go.Op.binOp BinOp.sub 3 (Operand.tmp 29) (Operand.const (Value.int IntKind.i64 1)) 3, type := 3, pos := "ring.go:91", after := #[{ on := 6, ground := Ground.data }, { on := 3, ground := Ground.guard }], guard := some (3, false) },
          { dst := some 31, op := Go.Op.indexAddr 26 (Operand.tmp 27) (Operand.tmp 30), type := 0, pos := "ring.go:91", after := #[{ on := 4, ground := Ground.data }, { on := 7, ground := Ground.data }, { on := 3, ground := Ground.guard }], guard := some (3, false) },
          { dst := some 32, op := Go.Op.load 3 (Operand.tmp 31), type := 3, pos := "ring.go:91", after := #[{ on := 8, ground := Ground.data }, { on := 3, ground := Ground.guard }], guard := some (3, false) },
          { dst := some 33, op := Go.Op.load 3 (Operand.tmp 4), type := 3, pos := "ring.go:91", after := #[{ on := 3, ground := Ground.guard }], guard := some (3, false) },
          { dst := some 34, op := Go.Op.binOp BinOp.neq 3 (Operand.tmp 32) (Operand.tmp 33) 3, type := 4, pos := "ring.go:91", after := #[{ on := 9, ground := Ground.data }, { on := 10, ground := Ground.data }, { on := 3, ground := Ground.guard }], guard := some (3, false) },
          { dst := some 35, op := Go.Op.pick (Operand.tmp 26) (Operand.const (Value.bool true)) (Operand.tmp 34), type := 4, pos := "ring.go:91", after := #[{ on := 3, ground := Ground.data }, { on := 11, ground := Ground.data }], guard := none }] true)
      (Exit.then (fun a' W' => W' = U.drew ∧ TC g bx x (.slice va lr.length vc) (!lastB lr k) a') (fun _ _ _ => False))
      { tmps := #[y0, y1, y2, pt (g + 1), pt bx, iv x, .slice va lr.length vc, y7, y8, y9, y10, y11, y12, y13, y14, y15, y16, y17, y18, y19, y20, y21, y22, y23, y24, y25, y26, y27, y28, y29, y30, y31, y32, y33, y34, y35, y36, y37, y38, y39, y40, y41, y42, y43, y44], defers := [] } U := by
  have hmx : Try.prog.follows .mixedOrders = true := by kernel_rfl
  have HLB : Hid (lastB lr k = (!lr.isEmpty && (lr[lr.length - 1]! == (k : Int)))) := Lib.hid rfl
  by_cases he : lr = []
  · have HB : Hid ((!lastB lr k) = true) := Lib.hid (by rw [HLB.out, he]; rfl)
    have hz : lr.length = 0 := by rw [he]; rfl
    have HZ := Lib.hid hz
    clear ho HLB he hz
    rw [HB.out]
    clear HB hlr
    generalize lr.length = n at *
    refine wpIn_round_still_tail (lp := lp) 12 hmx (by kernel_rfl) (by kernel_rfl) ?_
    simp only [List.take_succ_cons, List.take_zero, List.drop_succ_cons, List.drop_zero]
    iterate 4 still_step
    have HB0 : Hid (((n : Int) == 0) = true) := Lib.hid (by rw [HZ.out]; rfl)
    generalize ((n : Int) == 0) = b0 at *
    iterate 8 (refine wpStill_step (fun K hK => ?_); have HK := Lib.hid hK; clear hK; refine skip_if (by have h := HB0.out; subst h; simp [Region.wanted, yielded]) ?_; go_simp; refine HK.out _ ?_; clear HK K)
    refine wpStill_nil ?_
    have h := HB0.out
    subst h
    go_wp2
    exact ⟨rfl, rfl, rfl, rfl, rfl, rfl, rfl⟩
  · obtain ⟨q, hq⟩ : ∃ q, lr.length = q + 1 := ⟨lr.length - 1, by have := List.length_pos_iff.2 he; omega⟩
    obtain ⟨ga, gc, hga, _, hgl⟩ := own_head ho (by omega)
    injection hga with e1 e2 e3
    subst e1
    have hlast := (ho.cellAt q (by omega)).trans (map_get _ (by omega))
    have hi0 : (0 : Int) ≤ (q : Int) := Int.natCast_nonneg _
    have hi1 : (q : Int) < (q : Int) + 1 := by omega
    have hw : IntKind.i64.wrap (q : Int) = q := by rw [IntKind.wrap_i64]; omega
    have hne : ((q : Int) + 1 == 0) = false := by rw [beq_eq_false_iff_ne]; omega
    have HB : Hid ((!lastB lr k) = (lr[q]! != (k : Int))) := Lib.hid (by
      rw [HLB.out, hq, Nat.add_sub_cancel]
      have : lr.isEmpty = false := by cases hq : lr.isEmpty with
        | false => rfl
        | true => exact absurd (List.isEmpty_iff.1 hq) he
      rw [this]; rfl)
    rw [HB.out, hq]
    rw [hq] at hlr
    clear ho HLB he HB hq
    generalize lr[q]! = z at *
    refine wpIn_round_still_tail (lp := lp) 12 hmx (by kernel_rfl) (by kernel_rfl) ?_
    simp only [List.take_succ_cons, List.take_zero, List.drop_succ_cons, List.drop_zero]
    iterate 12 still_step
    refine wpStill_nil ?_
    go_wp2
    exact ⟨rfl, rfl, rfl, rfl, rfl, rfl, rfl⟩
end Go.Proofs.Ytaagpnepkjkfoaa.R6
