/-
  Contract of package heap: Put.
-/
import Derived.Test.YtcipgjelbnmdiaaHpL
import Derived.Maps.AppendAt
namespace Go.Proofs.Ytcipgjelbnmdiaa.HP
open Go.RowKit Go.Shelf Go.Proofs.Ytcipgjelbnmdiaa.B Go.ChangeMaps
attribute [local go_sem] Oper.semAt_some

theorem app_at {P : Program} {o : Oper} {a : Act} {w : World} {K : Act → World → Prop} {Q : Exit → Act → World → Prop} (s x : Operand) (t : TypeId) (hop : o.op = Op.call { callee := Callee.builtin Builtin.append, args := #[s, x], argTypes := #[t, t] })
    (B : Nat) (e : TypeId) (i : TypeInfo) (z : Value) (size bytes : Nat) (h1 : P.underlying t = some (.slice e)) (h2 : P.info? e = some i) (h3 : i.zero = some z) (h4 : i.size = size) (h5 : i.bytes = bytes) (h6 : z.cells.size = size) (h7 : 0 < size)
    (v : Value) (n : Nat) (xs : List Value) (hs : a.eval s = v) (hown : w.ownsRow B e size v n xs)
    (ad : Addr) (m c : Nat) (news : List Value) (hx : a.eval x = .slice (some ad) m c) (hn : news.length = m * size) (hc : ∀ j u, news[j]? = some u → w.cell? (ad.add j) = some u) (h1c : ∀ u ∈ news, u.oneCell' = true)
    (b1 : n + m ≤ maxLen) (b2 : (n + m) * bytes ≤ 140737488355328) (hb : B ≤ w.heap.size)
    (hK : ∀ v' w', w'.ownsRow B e size v' (n + m) (xs ++ news) → w.grownBy w' v.ownBlock → (v'.ownBlock = v.ownBlock ∨ v'.ownBlock = some w.heap.size) → K (a.put o.dst v') w') : o.wp P a w K Q := by
  obtain ⟨v', w', hrun, r1, r2, _, r3⟩ := run_append_own_at (P := P) w B t o.type e i z size bytes h1 h2 h3 h4 h5 h6 h7 v n xs hown ad m c news hn hc h1c b1 b2 hb
  unfold Oper.wp
  simp [execOp, hop, resolve, invoke, builtin, hs, hx, hrun, Result.andThen]
  exact hK v' w' r1 r2 r3
theorem own_is {w : World} {B e z n g : Nat} {v : Value} {xs : List Value} (h : w.ownsRow B e z v n xs) (hg : v.ownBlock = some g) : ∃ cs, w.heap[g]? = some (.cells cs e (0, 0)) := by
  rcases h.2 with ⟨hv, _⟩ | ⟨g', cap, cur, hv, _, hgc, _⟩
  · rw [hv] at hg; cases hg
  · rw [hv] at hg
    have e0 : g' = g := by simpa [Value.ownBlock] using hg
    subst e0
    exact ⟨cur, hgc⟩
theorem info_it : (Try.prog.info? 32).map (fun i => (i.zero, i.size, i.bytes)) = some (some (.agg #[.int .i64 0, .int .i64 0, .int .i64 0]), 3, 24) := by kernel_rfl
/-- May an item be, by its Base and Since? -/
def okB (x : It) : Bool := decide (0 ≤ x.base ∧ x.base ≤ 9 ∧ 0 ≤ x.since ∧ x.since ≤ 1099511627776)
/-- What Put tells. -/
def putE (L : List It) (x : It) : Int := if okB x = false then 3 else if hasB L x.id = true then 6 else if L.length = 1000 then 4 else 0
/-- An item is put: the row grows, the box holds the new one. -/
theorem HW.snoc {F : FW} {w V w3 : World} {hb : Nat} {A : HA} {s : Int} {L : List It} (h : HW F w hb A s L) (hV : Below w.heap.size w V) {x : It} (hx : OkI x) (hfew : L.length + 1 ≤ 1000) {pa : Option Addr} {pc B : Nat}
    (hg : V.grownBy w3 (Value.slice A.ia L.length A.ic).ownBlock) (hr : w3.ownsRow B 32 3 (.slice pa (L.length + 1) pc) (L.length + 1) (L.flatMap itC ++ itC x))
    (hat : (Value.slice pa (L.length + 1) pc).ownBlock = (Value.slice A.ia L.length A.ic).ownBlock ∨ (Value.slice pa (L.length + 1) pc).ownBlock = some V.heap.size)
    {W5 : World} {f : Int → Option Nat} (hm : MI W5 A.pb (putF f x.id L.length) (L.length + 1)) (hp : PlOk L f) (hno : f x.id = none)
    (ht : (w3.setCell ⟨hb, 1, none⟩ (.slice pa (L.length + 1) pc)).drew.mapTurned W5 A.pb) :
    HW F W5 hb ⟨pa, pc, A.pb⟩ s (L ++ [x]) := by
  have hV' := h.call hV
  have hAll : ∀ g, (Value.slice A.ia L.length A.ic).ownBlock = some g → F.far g ∧ g ≠ hb ∧ g ≠ A.pb := fun g hg' => by
    obtain ⟨B', hr'⟩ := hV'.h.row
    rcases hr'.2 with ⟨hv, _⟩ | ⟨g', cap, cur, hv, _, hgc, _⟩
    · rw [hv] at hg'; cases hg'
    · have hia : A.ia = some ⟨g', 0, none⟩ := by injection hv
      rw [hv] at hg'
      have e0 : g' = g := by simpa [Value.ownBlock] using hg'
      subst e0
      refine ⟨h.li g' 0 hia, fun e => ?_, fun e => ?_⟩
      · rw [e, hV'.h.box] at hgc
        injection hgc with hgc
        injection hgc with _ e4 _
        exact absurd e4 (by decide)
      · obtain ⟨f', ⟨D, ⟨es, c, hm', _⟩, _⟩, _⟩ := hV'.h.map
        rw [e, hm'] at hgc
        cases hgc
  have hown : ∀ g, (Value.slice A.ia L.length A.ic).ownBlock = some g → F.far g := fun g e => (hAll g e).1
  have hne : ∀ g, (Value.slice A.ia L.length A.ic).ownBlock = some g → g ≠ hb ∧ g ≠ A.pb := fun g e => (hAll g e).2
  have hbl := hV'.h.lt
  have hpl := hV'.h.pl
  have b3 : w3.heap[hb]? = some (.cells #[.int .i64 s, .slice A.ia L.length A.ic, .map (some A.pb)] 82 (0, 0)) := (hg.block _ hbl (fun e => (hne hb e.symm).1 rfl)).trans hV'.h.box
  have hbp : hb ≠ A.pb := fun e => by
    have h1 := h.h.box
    obtain ⟨_, ⟨D, ⟨es, c, h2, _⟩, _⟩, _⟩ := h.h.map
    rw [e, h2] at h1; cases h1
  have hlen : (L ++ [x]).length = L.length + 1 := by rw [List.length_append, List.length_singleton]
  have hpa : ∀ g, (Value.slice pa (L.length + 1) pc).ownBlock = some g → F.far g ∧ g ≠ hb ∧ g ≠ A.pb := fun g e => by
    rcases hat with e2 | e2
    · rw [e2] at e
      exact ⟨hown g e, hne g e⟩
    · rw [e2] at e
      injection e with e
      have := hV'.b.size
      exact ⟨.inr (by omega), by omega, by omega⟩
  have hK : Kept F w3 := hV'.b.grown hg hown
  have hst : ∀ g, g ≠ hb → g ≠ A.pb → W5.heap[g]? = w3.heap[g]? := fun g h1 h2 => by
    rw [turned_other ht h2]
    exact blk_other h1
  have eb : W5.heap[hb]? = some (.cells #[.int .i64 s, .slice pa (L.length + 1) pc, .map (some A.pb)] 82 (0, 0)) := by
    rw [turned_other ht hbp]
    show (w3.setCell ⟨hb, 1, none⟩ (.slice pa (L.length + 1) pc)).heap[hb]? = _
    rw [blk_set b3]
    rfl
  refine ⟨((hK.setCell ⟨hb, 1, none⟩ h.lb _).drew).turned ht h.lp, ⟨?_, ?_, ⟨_, ?_, hp.snoc hno⟩, ?_, ?_, h.h.step⟩, h.lb, h.lp, ?_⟩
  · rw [hlen]; exact eb
  · rw [hlen, List.flatMap_append]
    refine ⟨B, ?_, ?_⟩
    · have := hr.1
      rw [← this]; simp
    · rcases hr.2 with k1 | ⟨g, cap, cur, e1, e2, e3, e4⟩
      · exact absurd k1.2 (by omega)
      · obtain ⟨_, n1, n2⟩ := hpa g (by show (Value.slice pa (L.length + 1) pc).ownBlock = _; rw [e1]; rfl)
        refine .inr ⟨g, cap, cur, e1, e2, (hst g n1 n2).trans e3, ?_⟩
        have e5 : List.flatMap itC L ++ List.flatMap itC [x] = L.flatMap itC ++ itC x := by simp
        rw [e5]; exact e4
  · rw [hlen]; exact hm
  · intro y hy
    rw [List.mem_append, List.mem_singleton] at hy
    rcases hy with hy | rfl
    · exact h.h.ok y hy
    · exact hx
  · rw [hlen]; exact hfew
  · intro g off e
    have e' : pa = some ⟨g, off, none⟩ := e
    rcases hr.2 with k1 | ⟨g', cap, cur, e1, e2, e3, e4⟩
    · exact absurd k1.2 (by omega)
    · injection e1 with e1 _ _
      rw [e'] at e1
      injection e1 with e1
      injection e1 with e1 e6 _
      subst e1
      exact (hpa g (by rw [e', e6]; rfl)).1
set_option maxRecDepth 100000 in
set_option maxHeartbeats 4000000 in
theorem put_ok (F : FW) (w : World) (hb : Nat) (A : HA) (s : Int) (L : List It) (h : HW F w hb A s L) (hO : HO s L) (x : It) (hx : OkI x) (hno : hasB L x.id = false) (hfew : L.length + 1 ≤ 1000) :
    Calls Try.prog 12 #[pt hb, itV x] w fun e w' => e = .returned (.int .i64 0) ∧ ∃ A' L', L'.Perm (L ++ [x]) ∧ HO s L' ∧ HW F w' hb A' s L' := by
  obtain ⟨ii, hii0, hii1, hii2, hii3⟩ := info_parts info_it
  have HII0 := Lib.hid hii0
  have HII1 := Lib.hid hii1
  have HII2 := Lib.hid hii2
  have HII3 := Lib.hid hii3
  clear hii0 hii1 hii2 hii3
  have hH := Lib.hid h
  have hO' := Lib.hid hO
  have HXO := Lib.hid hx
  have hbl := h.h.lt
  obtain ⟨f, hMI, hPl⟩ := h.h.map
  have hfn : f x.id = none := (by
    have := hPl.has x.id
    rw [hno] at this
    cases hf : f x.id with
    | none => rfl
    | some p => rw [hf] at this; cases this)
  have hb0 := hx.base
  have hs0 := hx.since
  have k1 : ¬ x.base < 0 := by omega
  have k2 : ¬ x.base > 9 := by omega
  have k3 : ¬ x.since < 0 := by omega
  have k4 : ¬ x.since > 1099511627776 := by omega
  have hneq : ((L.length : Int) == 1000) = false := by rw [beq_eq_false_iff_ne]; omega
  clear hb0 hs0
  have HXID := Lib.hid hx.id
  have HFEW := Lib.hid hfew
  obtain ⟨W1, hW1⟩ : ∃ W1, W1 = w.alloc (.cells #[.int .i64 x.id, .int .i64 x.base, .int .i64 x.since] 32) := ⟨_, rfl⟩
  have hB1 : Below w.heap.size w W1 := (by rw [hW1]; exact (Below.refl _ _).alloc (Nat.le_refl _) _)
  have HB1 := Lib.hid hB1
  have hX1 : W1.heap[w.heap.size]? = some (.cells #[.int .i64 x.id, .int .i64 x.base, .int .i64 x.since] 32 (0, 0)) := (by rw [hW1]; exact heap_new w _)
  have HZ1 : Hid (W1.heap.size = w.heap.size + 1) := Lib.hid (by rw [hW1, World.size_alloc])
  have hH1 := h.call hB1
  obtain ⟨ia, ic, pb⟩ := A
  have CH := Lib.hid (has_any W1 hb _ s L hH1.h x.id hx.id)
  rw [hno] at CH
  have d1 : W1.cell? ⟨hb, 1, none⟩ = some (.slice ia L.length ic) := cell_blk (i := 1) hH1.h.box rfl
  have x0 : W1.cell? ⟨w.heap.size, 0, none⟩ = some (.int .i64 x.id) := cell_blk (i := 0) hX1 rfl
  have x1 : W1.cell? ⟨w.heap.size, 1, none⟩ = some (.int .i64 x.base) := cell_blk (i := 1) hX1 rfl
  have x2 : W1.cell? ⟨w.heap.size, 2, none⟩ = some (.int .i64 x.since) := cell_blk (i := 2) hX1 rfl
  have hbl1 := hH1.h.lt
  have hxl1 := blk_lt hX1
  have HH1 := Lib.hid hH1
  obtain ⟨B0, hrow0⟩ := hH1.h.row
  have HROW := Lib.hid (own_base hrow0 (Nat.zero_le _))
  have HROW0 : Hid (w.ownsRow 0 32 3 (.slice ia L.length ic) L.length (L.flatMap itC)) := Lib.hid (by obtain ⟨B1, hr1⟩ := h.h.row; exact own_base hr1 (Nat.zero_le _))
  have HX1 := Lib.hid hX1
  have HMI := Lib.hid hMI
  have HPL := Lib.hid hPl
  have HFN := Lib.hid hfn
  clear h hO hx hB1 hH1 hX1 hMI hPl hfn hfew hrow0 hno
  go_enter Try.func12, Try.ntmps12
  obtain ⟨xi, xb, xs⟩ := x
  go_upto_region 3 with fail
  simp only at hW1
  rw [← hW1]
  clear hW1
  go_wp2_with fail
  refine CH.out.mono ?_
  rintro e W1' ⟨rfl, hww⟩
  subst hww
  go_upto_region 8 with fail
  have S := Lib.hid (show W1.drew.cell? ⟨hb, 1, none⟩ = some (.slice ia L.length ic) ∧ W1.drew.cell? ⟨w.heap.size, 0, none⟩ = some (.int .i64 xi) ∧ W1.drew.cell? ⟨w.heap.size, 1, none⟩ = some (.int .i64 xb) ∧ W1.drew.cell? ⟨w.heap.size, 2, none⟩ = some (.int .i64 xs) ∧ hb < W1.drew.heap.size ∧ w.heap.size < W1.drew.heap.size from ⟨d1, x0, x1, x2, hbl1, hxl1⟩)
  refine wp_region_T (S := fun W => W.cell? ⟨hb, 1, none⟩ = some (.slice ia L.length ic) ∧ W.cell? ⟨w.heap.size, 0, none⟩ = some (.int .i64 xi) ∧ W.cell? ⟨w.heap.size, 1, none⟩ = some (.int .i64 xb) ∧ W.cell? ⟨w.heap.size, 2, none⟩ = some (.int .i64 xs) ∧ hb < W.heap.size ∧ w.heap.size < W.heap.size) (z := 10) (by kernel_rfl) ?_
  obtain ⟨V, hV⟩ : ∃ V, V = W1.drew := ⟨_, rfl⟩
  rw [← hV] at S
  rw [← hV]
  have HBV : Hid (Below w.heap.size w V) := Lib.hid (by rw [hV]; exact below_draws HB1.out 1)
  have HRV : Hid (V.ownsRow 0 32 3 (.slice ia L.length ic) L.length (L.flatMap itC)) := Lib.hid (by rw [hV]; exact HROW.out.drew)
  have HXV : Hid (V.heap[w.heap.size]? = some (.cells #[.int .i64 xi, .int .i64 xb, .int .i64 xs] 32 (0, 0))) := Lib.hid (by rw [hV]; exact HX1.out)
  clear hV HROW HX1 CH d1 x0 x1 x2
  refine anyT_take (i := 0) 0 [] (v := ?_) rfl (by kernel_rfl) (by kernel_rfl) (by kernel_rfl) (by kernel_rfl) (fun _ _ _ h => h) S.out (by rfl) ?_ ?_
  rotate_left
  · intro W9 hSw
    obtain ⟨q0, q1, q2, q3, q4, q5⟩ := hSw
    go_simp
    try with_reducible rfl
  simp only [Act.put, List.setIfInBounds_toArray]
  try simp only [List.set_cons_zero, List.set_cons_succ]
  try simp only [List.getElem_toArray]
  repeat (first | simp only [List.getElem_cons_zero] | simp only [List.getElem_cons_succ])
  refine anyT_take (i := 1) 1 [] (v := ?_) rfl (by kernel_rfl) (by kernel_rfl) (by kernel_rfl) (by kernel_rfl) (fun _ _ _ h => h) S.out (by rfl) ?_ ?_
  rotate_left
  · intro W9 hSw
    obtain ⟨q0, q1, q2, q3, q4, q5⟩ := hSw
    go_simp
    try with_reducible rfl
  simp only [Act.put, List.setIfInBounds_toArray]
  try simp only [List.set_cons_zero, List.set_cons_succ]
  try simp only [List.getElem_toArray]
  repeat (first | simp only [List.getElem_cons_zero] | simp only [List.getElem_cons_succ])
  refine anyT_take (i := 2) 2 [] (v := ?_) rfl (by kernel_rfl) (by kernel_rfl) (by kernel_rfl) (by kernel_rfl) (fun _ _ _ h => h) S.out (by rfl) ?_ ?_
  rotate_left
  · intro W9 hSw
    obtain ⟨q0, q1, q2, q3, q4, q5⟩ := hSw
    go_simp
    try with_reducible rfl
  simp only [Act.put, List.setIfInBounds_toArray]
  try simp only [List.set_cons_zero, List.set_cons_succ]
  try simp only [List.getElem_toArray]
  repeat (first | simp only [List.getElem_cons_zero] | simp only [List.getElem_cons_succ])
  refine anyT_take (i := 3) 3 [] (v := ?_) rfl (by kernel_rfl) (by kernel_rfl) (by kernel_rfl) (by kernel_rfl) (fun _ _ _ h => h) S.out (by rfl) ?_ ?_
  rotate_left
  · intro W9 hSw
    obtain ⟨q0, q1, q2, q3, q4, q5⟩ := hSw
    go_simp
    try with_reducible rfl
  simp only [Act.put, List.setIfInBounds_toArray]
  try simp only [List.set_cons_zero, List.set_cons_succ]
  try simp only [List.getElem_toArray]
  repeat (first | simp only [List.getElem_cons_zero] | simp only [List.getElem_cons_succ])
  refine anyT_take (i := 4) 4 [] (v := ?_) rfl (by kernel_rfl) (by kernel_rfl) (by kernel_rfl) (by kernel_rfl) (fun _ _ _ h => h) S.out (by rfl) ?_ ?_
  rotate_left
  · intro W9 hSw
    obtain ⟨q0, q1, q2, q3, q4, q5⟩ := hSw
    go_simp
    try with_reducible rfl
  simp only [Act.put, List.setIfInBounds_toArray]
  try simp only [List.set_cons_zero, List.set_cons_succ]
  try simp only [List.getElem_toArray]
  repeat (first | simp only [List.getElem_cons_zero] | simp only [List.getElem_cons_succ])
  refine anyT_take (i := 5) 5 [] (v := ?_) rfl (by kernel_rfl) (by kernel_rfl) (by kernel_rfl) (by kernel_rfl) (fun _ _ _ h => h) S.out (by rfl) ?_ ?_
  rotate_left
  · intro W9 hSw
    obtain ⟨q0, q1, q2, q3, q4, q5⟩ := hSw
    go_simp
    try with_reducible rfl
  simp only [Act.put, List.setIfInBounds_toArray]
  try simp only [List.set_cons_zero, List.set_cons_succ]
  try simp only [List.getElem_toArray]
  repeat (first | simp only [List.getElem_cons_zero] | simp only [List.getElem_cons_succ])
  have S1 : Hid ((V.alloc (.cells #[.int .i64 xi, .int .i64 xb, .int .i64 xs] 32)).cell? ⟨hb, 1, none⟩ = some (.slice ia L.length ic) ∧ (V.alloc (.cells #[.int .i64 xi, .int .i64 xb, .int .i64 xs] 32)).cell? ⟨w.heap.size, 0, none⟩ = some (.int .i64 xi) ∧ (V.alloc (.cells #[.int .i64 xi, .int .i64 xb, .int .i64 xs] 32)).cell? ⟨w.heap.size, 1, none⟩ = some (.int .i64 xb) ∧ (V.alloc (.cells #[.int .i64 xi, .int .i64 xb, .int .i64 xs] 32)).cell? ⟨w.heap.size, 2, none⟩ = some (.int .i64 xs) ∧ hb < (V.alloc (.cells #[.int .i64 xi, .int .i64 xb, .int .i64 xs] 32)).heap.size ∧ w.heap.size < (V.alloc (.cells #[.int .i64 xi, .int .i64 xb, .int .i64 xs] 32)).heap.size) := Lib.hid (by
    obtain ⟨q0, q1, q2, q3, q4, q5⟩ := S.out
    exact ⟨(World.cell?_alloc_lt _ _ ⟨hb, 1, none⟩ q4).trans q0, (World.cell?_alloc_lt _ _ ⟨w.heap.size, 0, none⟩ q5).trans q1, (World.cell?_alloc_lt _ _ ⟨w.heap.size, 1, none⟩ q5).trans q2, (World.cell?_alloc_lt _ _ ⟨w.heap.size, 2, none⟩ q5).trans q3, by rw [World.size_alloc]; omega, by rw [World.size_alloc]; omega⟩)
  refine anyT_one' (i := 6) (by kernel_rfl) rfl (by rfl) (fun K hK => ?_)
  have HK := Lib.hid hK
  clear hK
  unfold Oper.wp
  go_simp
  refine HK.out _ _ (fun _ => S1.out) ?_
  clear HK K
  refine anyT_one' (i := 7) (by kernel_rfl) rfl (by rfl) (fun K hK => ?_)
  have HK := Lib.hid hK
  clear hK
  refine app_at (.tmp 46) (.tmp 48) 51 rfl 0 32 ii _ 3 24 Try.underlying51 HII0.out HII1.out HII2.out HII3.out rfl (by omega) _ _ _ rfl (HRV.out.alloc (.cells #[.int .i64 xi, .int .i64 xb, .int .i64 xs] 32)) ⟨V.heap.size, 0, none⟩ 1 1 [.int .i64 xi, .int .i64 xb, .int .i64 xs] rfl rfl (fun j u hj => by rw [Addr.add_lit, Nat.zero_add]; exact cell_blk (heap_new V _) (by simpa using hj)) (by intro u hu; simp at hu; rcases hu with rfl | rfl | rfl <;> rfl) (by have := HFEW.out; unfold maxLen; omega) (by have := HFEW.out; omega) (Nat.zero_le _) ?_
  intro v' w3 hown' hgrow hat
  obtain ⟨pa, pc, rfl⟩ := own_slice hown'
  have HBV2 : Hid (Below w.heap.size w (V.alloc (.cells #[.int .i64 xi, .int .i64 xb, .int .i64 xs] 32))) := Lib.hid (HBV.out.alloc HBV.out.size _)
  have hHV := hH.out.call HBV2.out
  have hne3 : ∀ q, q < (V.alloc (.cells #[.int .i64 xi, .int .i64 xb, .int .i64 xs] 32)).heap.size → (∀ g, (Value.slice ia L.length ic).ownBlock = some g → q ≠ g) → w3.heap[q]? = (V.alloc (.cells #[.int .i64 xi, .int .i64 xb, .int .i64 xs] 32)).heap[q]? := fun q hq hqg => hgrow.block q hq (fun e => hqg q e.symm rfl)
  have hVA : (V.alloc (.cells #[.int .i64 xi, .int .i64 xb, .int .i64 xs] 32)).heap.size = V.heap.size + 1 := World.size_alloc _ _
  have hbA : (V.alloc (.cells #[.int .i64 xi, .int .i64 xb, .int .i64 xs] 32)).heap[hb]? = some (.cells #[.int .i64 s, .slice ia L.length ic, .map (some pb)] 82 (0, 0)) := hHV.h.box
  have hxA : (V.alloc (.cells #[.int .i64 xi, .int .i64 xb, .int .i64 xs] 32)).heap[w.heap.size]? = some (.cells #[.int .i64 xi, .int .i64 xb, .int .i64 xs] 32 (0, 0)) := (Below.heap_alloc _ _ _ S.out.2.2.2.2.2).trans HXV.out
  have hib : ∀ g, (Value.slice ia L.length ic).ownBlock = some g → g ≠ hb ∧ g ≠ w.heap.size := fun g e => ⟨fun e2 => own_far (HRV.out.alloc (.cells #[.int .i64 xi, .int .i64 xb, .int .i64 xs] 32)) hbA (by decide) (by rw [← e2]; exact e), fun e2 => by
    rw [e2] at e
    have := (HROW0.out.lt _ e).2
    omega⟩
  have hb3 : w3.heap[hb]? = some (.cells #[.int .i64 s, .slice ia L.length ic, .map (some pb)] 82 (0, 0)) := (hne3 _ (blk_lt hbA) (fun g e e2 => (hib g e).1 e2.symm)).trans hbA
  have hx3 : w3.heap[w.heap.size]? = some (.cells #[.int .i64 xi, .int .i64 xb, .int .i64 xs] 32 (0, 0)) := (hne3 _ (blk_lt hxA) (fun g e e2 => (hib g e).2 e2.symm)).trans hxA
  have S3 : Hid (w3.cell? ⟨hb, 1, none⟩ = some (.slice ia L.length ic) ∧ w3.cell? ⟨w.heap.size, 0, none⟩ = some (.int .i64 xi) ∧ w3.cell? ⟨w.heap.size, 1, none⟩ = some (.int .i64 xb) ∧ w3.cell? ⟨w.heap.size, 2, none⟩ = some (.int .i64 xs) ∧ hb < w3.heap.size ∧ w.heap.size < w3.heap.size) := Lib.hid ⟨cell_blk (i := 1) hb3 rfl, cell_blk (i := 0) hx3 rfl, cell_blk (i := 1) hx3 rfl, cell_blk (i := 2) hx3 rfl, blk_lt hb3, blk_lt hx3⟩
  refine HK.out _ _ (fun _ => S3.out) ?_
  clear HK K
  refine anyT_one' (i := 8) (by kernel_rfl) rfl (by rfl) (fun K hK => ?_)
  have HK := Lib.hid hK
  clear hK
  unfold Oper.wp
  go_simp
  refine HK.out _ _ (fun _ => S3.out) ?_
  clear HK K
  refine anyT_one' (i := 9) (by kernel_rfl) rfl (by rfl) (fun K hK => ?_)
  have HK := Lib.hid hK
  clear hK
  unfold Oper.wp
  go_simp
  refine HK.out _ _ (fun _ => S3.out) ?_
  clear HK K
  have c13 : w3.cell? ⟨hb, 1, none⟩ = some (.slice ia L.length ic) := cell_blk (i := 1) hb3 rfl
  have f13 := frozen_blk (i := 1) hb3
  obtain ⟨W4, hW4⟩ : ∃ W4, W4 = w3.setCell ⟨hb, 1, none⟩ (.slice pa (L.length + 1) pc) := ⟨_, rfl⟩
  have hb4 : W4.heap[hb]? = some (.cells #[.int .i64 s, .slice pa (L.length + 1) pc, .map (some pb)] 82 (0, 0)) := (by rw [hW4, blk_set hb3]; rfl)
  have hx4 : W4.heap[w.heap.size]? = some (.cells #[.int .i64 xi, .int .i64 xb, .int .i64 xs] 32 (0, 0)) := (by rw [hW4]; exact (blk_other (by omega)).trans hx3)
  have hp4 : W4.heap[pb]? = (V.alloc (.cells #[.int .i64 xi, .int .i64 xb, .int .i64 xs] 32)).heap[pb]? := (by
    rw [hW4]
    have hpne : pb ≠ hb := fun e => by
      obtain ⟨D, ⟨es, c, h2, _⟩, _⟩ := HMI.out
      have h3 := hH.out.h.box
      rw [← e] at h3
      rw [h3] at h2; cases h2
    exact (blk_other hpne).trans (hgrow.block _ (by have := HBV2.out.size; have h9 : pb < w.heap.size := hH.out.h.pl; show pb < _; omega) (fun e => by
      have e2 : (Value.slice ia L.length ic).ownBlock = some pb := e.symm
      obtain ⟨f', ⟨D, ⟨es, c, h2, _⟩, _⟩, _⟩ := hHV.h.map
      obtain ⟨cs, h3⟩ := own_is (HRV.out.alloc (.cells #[.int .i64 xi, .int .i64 xb, .int .i64 xs] 32)) e2
      rw [h3] at h2; cases h2)))
  have hMI4 : MI W4.drew pb f L.length := HMI.out.block (by
    show W4.heap[pb]? = _
    rw [hp4]
    exact HBV2.out.block _ hH.out.h.pl)
  obtain ⟨W5, hmu, hM5, ht5⟩ := hMI4.put (i := xi) HXID.out (p := L.length) (by have := HFEW.out; omega) (by have := HFEW.out; omega)
  rw [HFN.out, if_neg (by simp)] at hM5
  have hF5 : HW F W5 hb ⟨pa, pc, pb⟩ s (L ++ [⟨xi, xb, xs⟩]) := hH.out.snoc HBV2.out HXO.out HFEW.out hgrow hown' hat hM5 HPL.out HFN.out (by rw [← hW4]; exact ht5)
  have HF5 := Lib.hid hF5
  have h52 : W4.drew.cell? ⟨hb, 2, none⟩ = some (.map (some pb)) := cell_blk (i := 2) hb4 rfl
  have h50 : W4.drew.cell? ⟨w.heap.size, 0, none⟩ = some (.int .i64 xi) := cell_blk (i := 0) hx4 rfl
  have l52 : hb < W4.drew.heap.size := blk_lt hb4
  have l50 : w.heap.size < W4.drew.heap.size := blk_lt hx4
  have hat4 : L.length < (L ++ [(⟨xi, xb, xs⟩ : It)]).length := (by rw [List.length_append, List.length_singleton]; omega)
  have CF := Lib.hid (sift_any F W5 hb _ s _ HF5.out L.length hat4 (put_ex hO'.out ⟨xi, xb, xs⟩))
  clear hM5 hF5 ht5 hMI4 hp4 hb4 hx4 hgrow hown' hat hne3 hHV hbA hxA hib hb3 hx3 hVA
  refine anyT_one' (i := 10) (by kernel_rfl) rfl (by rfl) (fun K hK => ?_)
  have HK := Lib.hid hK
  clear hK
  unfold Oper.wp
  go_simp
  refine HK.out _ _ (fun h => absurd rfl h) ?_
  clear HK K
  refine anyT_done (by kernel_rfl) ?_ _
  go_upto_region 9 with fail
  rw [← hW4]
  clear hW4 c13 f13
  refine wp_region_still_tail 7 mixed (by kernel_rfl) ?_
  simp only [List.take_succ_cons, List.take_zero, List.drop_succ_cons, List.drop_zero]
  iterate 7 still_step
  refine wpStill_nil ?_
  go_upto_region 10 with fail
  clear hmu
  go_wp2_with fail
  refine CF.out.mono ?_
  rintro e W6 ⟨rfl, L6, hpm6, hO6, hH6⟩
  have HZ := Lib.hid (And.intro hpm6 (And.intro hO6 hH6))
  clear hpm6 hO6 hH6
  go_wp2_with fail
  go_ret
  exact ⟨rfl, _, _, HZ.out.1, HZ.out.2.1, HZ.out.2.2⟩
end Go.Proofs.Ytcipgjelbnmdiaa.HP
